import Derived.Test.YtdeecgmihfakgaaGreatDoorYG3
import Derived.Test.YtdeecgmihfakgaaGreatDoorYFY
import Derived.Lib.SlBytesConst
namespace Go.Proofs.YtdeecgmihfakgaaGreatDoor
open Go.RowKit
set_option linter.unusedVariables false
set_option linter.unusedSimpArgs false
set_option maxRecDepth 100000
def nextN (l:List UInt8):Nat:=((headB l).head+((headB l).rest:Int)).toNat
def nextE (v m:Int) (fst:Bool) (l:List UInt8):Int :=
 if headE l≠0 then headE l
 else if m < (headB l).head+((headB l).rest:Int) then 5
 else if fst=true∧(headB l).kind≠1 then 6
 else if (l.length:Int) < (headB l).head+((headB l).rest:Int) then 2
 else decE v (l.take (nextN l))
def feedG (v m:Int):Nat→Bool→List UInt8→List (Pk × List UInt8) × List UInt8 × Int
 | 0,_,l=>([],l,0)
 | n+1,fst,l=>if nextE v m fst l=0 then ((decP v (l.take (nextN l)),l.take (nextN l)) :: (feedG v m n false (l.drop (nextN l))).1,(feedG v m n false (l.drop (nextN l))).2)
   else if nextE v m fst l=2 then ([],l,0) else ([],[],nextE v m fst l)
structure Fs where
 fst:Bool
 h:List UInt8
 e:Int
def feedS (v m:Int) (S:Fs) (b:List UInt8):List (Pk × List UInt8) × Fs :=
 if S.e≠0 then ([],S) else ((feedG v m (S.h++b).length S.fst (S.h++b)).1,⟨S.fst&&(feedG v m (S.h++b).length S.fst (S.h++b)).1.isEmpty,(feedG v m (S.h++b).length S.fst (S.h++b)).2.1,(feedG v m (S.h++b).length S.fst (S.h++b)).2.2⟩)
theorem headE_nil:headE []=2:=by decide +kernel
theorem decE_nil (v:Int):decE v []≠0:=by
 have h:formOk v []=false:=by
  unfold formOk;rw[headE_nil]
  rfl
 unfold decE;rw[h]
 split
 ·rw[if_neg (by decide)];decide
 ·decide
section
variable {v m:Int} {fst:Bool} {l:List UInt8}
theorem next_is (h:nextE v m fst l=0):headE l=0∧(headB l).head+((headB l).rest:Int)≤m∧¬ (fst=true∧(headB l).kind≠1)∧(headB l).head+((headB l).rest:Int)≤(l.length:Int)∧decE v (l.take (nextN l))=0:=by
 unfold nextE at h
 split at h
 ·rename_i h1;exact absurd h h1
 split at h
 ·cases h
 split at h
 ·cases h
 split at h
 ·cases h
 ·rename_i h1 h2 h3 h4
  exact ⟨by simpa using h1,by omega,h3,by omega,h⟩
theorem nextN_lt (h:nextE v m fst l=0):1≤nextN l∧nextN l≤l.length:=by
 obtain ⟨_,_,_,h4,h5⟩:=next_is h;refine ⟨?_,by unfold nextN;omega⟩
 by_cases h0:nextN l=0
 ·rw[h0,List.take_zero]at h5
  exact absurd h5 (decE_nil v)
 ·omega
theorem nextE_nil:nextE v m fst []=2:=by
 unfold nextE;rw[if_pos (by rw[headE_nil];decide),headE_nil]
theorem feedG_go {n:Nat} (h:nextE v m fst l=0):feedG v m (n+1) fst l=((decP v (l.take (nextN l)),l.take (nextN l)) :: (feedG v m n false (l.drop (nextN l))).1,(feedG v m n false (l.drop (nextN l))).2):=if_pos h
theorem feedG_wait (n:Nat) (h:nextE v m fst l=2):feedG v m n fst l=([],l,0):=by
 cases n with
 | zero=>rfl
 | succ n=>exact (if_neg (by omega)).trans (if_pos h)
theorem feedG_bad {n:Nat} (h0:nextE v m fst l≠0) (h2:nextE v m fst l≠2) (hn:l.length≤n):feedG v m n fst l=([],[],nextE v m fst l):=by
 cases n with
 | zero =>
  obtain rfl:l=[]:=List.length_eq_zero_iff.1 (by omega);exact absurd nextE_nil h2
 | succ n=>exact (if_neg h0).trans (if_neg h2)
end
structure It where
 p:Pk
 s:Sl
 b:List UInt8
 a:Option Addr
 c:Nat
def It.pb (x:It):Pk × List UInt8:=(x.p,x.b)
def itC (p:Pk) (s:Sl) (v:Value):Array Value:=(Pk.cells p s).push v
def It.cells (x:It):Array Value:=itC x.p x.s (.slice x.a x.b.length x.c)
def itZ:Array Value:=zeroPk.push (.slice none 0 0)
def IC (L:List It):List Value:=L.flatMap fun x=>x.cells.toList
theorem IC_append (L M:List It):IC (L++M)=IC L++IC M:=by unfold IC;rw[List.flatMap_append]
theorem IC_one (x:It):IC [x]=x.cells.toList:=by unfold IC;simp
theorem itC_one (p:Pk) (s:Sl) (a:Option Addr) (n c:Nat):(itC p s (.slice a n c)).all (·.oneCell')=true:=by
 simp[itC,Pk.cells,Value.oneCell']
theorem feedG_round {v m:Int} {N n:Nat} {F fst:Bool} {l0 l:List UInt8} {L:List It} {x:It} (hf:feedG v m N F l0=(L.map It.pb++(feedG v m n fst l).1,(feedG v m n fst l).2)) (hn:l.length≤n) (h:nextE v m fst l=0) (hp:x.p=decP v (l.take (nextN l))) (hb:x.b=l.take (nextN l)) :
  feedG v m N F l0=((L++[x]).map It.pb++(feedG v m (n - 1) false (l.drop (nextN l))).1,(feedG v m (n - 1) false (l.drop (nextN l))).2)∧(l.drop (nextN l)).length≤n - 1∧1≤n:=by
 have h1:=nextN_lt h;obtain ⟨k,rfl⟩:∃ k,n=k+1:=⟨n - 1,by omega⟩
 rw[hf,feedG_go h,Nat.add_sub_cancel];refine ⟨?_,by simp only[List.length_drop];omega,by omega⟩;simp[It.pb,hp,hb]
theorem pb_len {L:List It} {I:List (Pk × List UInt8)} (h:L.map It.pb=I):L.length=I.length:=by rw[← h];simp
theorem nextE_1 {v m:Int} {fst:Bool} {l:List UInt8} {h:Hd} (he:headB l=h) (h1:headE l≠0):nextE v m fst l=headE l:=if_pos h1
theorem nextE_2 {v m:Int} {fst:Bool} {l:List UInt8} {h:Hd} (he:headB l=h) (h1:headE l=0) (h2:m < h.head+(h.rest:Int)):nextE v m fst l=5:=by subst he;exact (if_neg (fun q=>q h1)).trans (if_pos h2)
theorem nextE_3 {v m:Int} {fst:Bool} {l:List UInt8} {h:Hd} (he:headB l=h) (h1:headE l=0) (h2:¬ m < h.head+(h.rest:Int)) (h3:fst=true∧h.kind≠1):nextE v m fst l=6:=by subst he;exact (if_neg (fun q=>q h1)).trans ((if_neg h2).trans (if_pos h3))
theorem nextE_4 {v m:Int} {fst:Bool} {l:List UInt8} {h:Hd} (he:headB l=h) (h1:headE l=0) (h2:¬ m < h.head+(h.rest:Int)) (h3:¬ (fst=true∧h.kind≠1)) (h4:(l.length:Int) < h.head+(h.rest:Int)):nextE v m fst l=2:=by subst he;exact (if_neg (fun q=>q h1)).trans ((if_neg h2).trans ((if_neg h3).trans (if_pos h4)))
theorem nextE_5 {v m:Int} {fst:Bool} {l:List UInt8} {h:Hd} (he:headB l=h) (h1:headE l=0) (h2:¬ m < h.head+(h.rest:Int)) (h3:¬ (fst=true∧h.kind≠1)) (h4:¬ (l.length:Int) < h.head+(h.rest:Int)):nextE v m fst l=decE v (l.take (nextN l)):=by subst he;exact (if_neg (fun q=>q h1)).trans ((if_neg h2).trans ((if_neg h3).trans (if_neg h4)))
theorem ag_35 (w:World):(isAgg 35).run Tryz.prog w=.ok false w:=by kernel_rfl
instance:NA 35:=⟨ag_35⟩
theorem gs1_35 (w:World):(Go.sizeOf 35).run Tryz.prog w=.ok 1 w:=by kernel_rfl
instance:SZ1 35:=⟨gs1_35⟩
theorem ga_86 (w:World):(isAgg 86).run Tryz.prog w=.ok true w:=by kernel_rfl
theorem gs_86 (w:World):(Go.sizeOf 86).run Tryz.prog w=.ok 26 w:=by kernel_rfl
theorem ga_62 (w:World):(isAgg 62).run Tryz.prog w=.ok true w:=by kernel_rfl
theorem gs_62 (w:World):(Go.sizeOf 62).run Tryz.prog w=.ok 3 w:=by kernel_rfl
theorem fa_147_0 (B o:Nat) (w:World):(Instr.fieldAt 147 (.pointer (some ⟨B,o,none⟩)) 0).run Tryz.prog w=.ok (.pointer (some ⟨B,o+0,none⟩)) w:=by
 have u:=Tryz.underlying147
 go_simp
instance:FA 147 0 0:=⟨fa_147_0⟩
theorem fa_147_1 (B o:Nat) (w:World):(Instr.fieldAt 147 (.pointer (some ⟨B,o,none⟩)) 1).run Tryz.prog w=.ok (.pointer (some ⟨B,o+1,none⟩)) w:=by
 have u:=Tryz.underlying147
 go_simp
instance:FA 147 1 1:=⟨fa_147_1⟩
theorem fa_147_2 (B o:Nat) (w:World):(Instr.fieldAt 147 (.pointer (some ⟨B,o,none⟩)) 2).run Tryz.prog w=.ok (.pointer (some ⟨B,o+2,none⟩)) w:=by
 have u:=Tryz.underlying147
 go_simp
instance:FA 147 2 2:=⟨fa_147_2⟩
theorem fa_147_3 (B o:Nat) (w:World):(Instr.fieldAt 147 (.pointer (some ⟨B,o,none⟩)) 3).run Tryz.prog w=.ok (.pointer (some ⟨B,o+3,none⟩)) w:=by
 have u:=Tryz.underlying147
 go_simp
instance:FA 147 3 3:=⟨fa_147_3⟩
theorem fa_147_4 (B o:Nat) (w:World):(Instr.fieldAt 147 (.pointer (some ⟨B,o,none⟩)) 4).run Tryz.prog w=.ok (.pointer (some ⟨B,o+4,none⟩)) w:=by
 have u:=Tryz.underlying147
 go_simp
instance:FA 147 4 4:=⟨fa_147_4⟩
theorem fa_86_0 (B o:Nat) (w:World):(Instr.fieldAt 86 (.pointer (some ⟨B,o,none⟩)) 0).run Tryz.prog w=.ok (.pointer (some ⟨B,o+0,none⟩)) w:=by
 have u:=Tryz.underlying86
 go_simp
instance:FA 86 0 0:=⟨fa_86_0⟩
theorem fa_86_1 (B o:Nat) (w:World):(Instr.fieldAt 86 (.pointer (some ⟨B,o,none⟩)) 1).run Tryz.prog w=.ok (.pointer (some ⟨B,o+25,none⟩)) w:=by
 have u:=Tryz.underlying86
 go_simp
instance:FA 86 1 25:=⟨fa_86_1⟩
theorem fa_62_0 (B o:Nat) (w:World):(Instr.fieldAt 62 (.pointer (some ⟨B,o,none⟩)) 0).run Tryz.prog w=.ok (.pointer (some ⟨B,o+0,none⟩)) w:=by
 have u:=Tryz.underlying62
 go_simp
instance:FA 62 0 0:=⟨fa_62_0⟩
theorem fa_62_1 (B o:Nat) (w:World):(Instr.fieldAt 62 (.pointer (some ⟨B,o,none⟩)) 1).run Tryz.prog w=.ok (.pointer (some ⟨B,o+1,none⟩)) w:=by
 have u:=Tryz.underlying62
 go_simp
instance:FA 62 1 1:=⟨fa_62_1⟩
theorem fa_62_2 (B o:Nat) (w:World):(Instr.fieldAt 62 (.pointer (some ⟨B,o,none⟩)) 2).run Tryz.prog w=.ok (.pointer (some ⟨B,o+2,none⟩)) w:=by
 have u:=Tryz.underlying62
 go_simp
instance:FA 62 2 2:=⟨fa_62_2⟩
theorem al_86 (w:World):(Instr.alloc 86 true (.tuple #[])).run Tryz.prog w=.ok (.pointer (some ⟨w.heap.size,0,none⟩)) (w.alloc (.cells itZ 86)):=by kernel_rfl
theorem al_62 (w:World):(Instr.alloc 62 true (.tuple #[])).run Tryz.prog w=.ok (.pointer (some ⟨w.heap.size,0,none⟩)) (w.alloc (.cells #[(.int .i64 0),(.int .i64 0),(.bool false)] 62)):=by kernel_rfl
theorem fn_39 (args:Array Value) (w:World):(callFunc 39 args).run Tryz.prog w=.ok (.enter 39 args) w:=gx_fn Tryz.func39 (by kernel_rfl) rfl args w
theorem fn_34 (args:Array Value) (w:World):(callFunc 34 args).run Tryz.prog w=.ok (.enter 34 args) w:=gx_fn Tryz.func34 (by kernel_rfl) rfl args w
theorem fn_38 (args:Array Value) (w:World):(callFunc 38 args).run Tryz.prog w=.ok (.enter 38 args) w:=gx_fn Tryz.func38 (by kernel_rfl) rfl args w
theorem fn_90 (args:Array Value) (w:World):(callFunc 90 args).run Tryz.prog w=.ok (.enter 90 args) w:=gx_fn Tryz.func90 (by kernel_rfl) rfl args w
theorem fn_91 (args:Array Value) (w:World):(callFunc 91 args).run Tryz.prog w=.ok (.enter 91 args) w:=gx_fn Tryz.func91 (by kernel_rfl) rfl args w
theorem fn_32 (args:Array Value) (w:World):(callFunc 32 args).run Tryz.prog w=.ok (.enter 32 args) w:=gx_fn Tryz.func32 (by kernel_rfl) rfl args w
theorem fn_31 (args:Array Value) (w:World):(callFunc 31 args).run Tryz.prog w=.ok (.enter 31 args) w:=gx_fn Tryz.func31 (by kernel_rfl) rfl args w
theorem fn_36 (args:Array Value) (w:World):(callFunc 36 args).run Tryz.prog w=.ok (.enter 36 args) w:=gx_fn Tryz.func36 (by kernel_rfl) rfl args w
theorem fn_33 (args:Array Value) (w:World):(callFunc 33 args).run Tryz.prog w=.ok (.enter 33 args) w:=gx_fn Tryz.func33 (by kernel_rfl) rfl args w
theorem fn_35 (args:Array Value) (w:World):(callFunc 35 args).run Tryz.prog w=.ok (.enter 35 args) w:=gx_fn Tryz.func35 (by kernel_rfl) rfl args w
theorem fn_37 (args:Array Value) (w:World):(callFunc 37 args).run Tryz.prog w=.ok (.enter 37 args) w:=gx_fn Tryz.func37 (by kernel_rfl) rfl args w
theorem slice_takeW (a:Option Addr) (c:Nat) (l:List UInt8) (n:Nat) (hc:l.length≤c):∃ a5,(∀ wz:World,(Instr.sliceAt 25 (.slice a l.length c) none (some (.int .i64 ((min l.length n:Nat):Int))) none).run Tryz.prog wz=.ok (.slice a5 (l.take n).length c) wz)∧(∀ w:World,Row w a (B8 l)→Row w a5 (B8 (l.take n)))∧((a=none→l.length=0∧c=0)→a5=none→(l.take n).length=0∧c=0)∧(l.take n).length≤c:=by
 refine ⟨(if c=0 then a else a.map (·.add 0)),fun wz=>?_,fun w hr=>?_,fun hn e=>?_,by rw[List.length_take];omega⟩
 ·rw[run_sliceAt_slice _ _ _ _ _ _ und8,run_slice_h _ _ _ _ _ und8 .i64 _ (by omega) (by omega),sz8]
  simp only[Result.andThen,sliced,Int.toNat_natCast,List.length_take,Nat.zero_mul,Nat.sub_zero];rw[Nat.min_comm]
 ·have h:=(hr.take n).drop (k:=0) (cap:=c) (by simp[B8,List.length_take];omega)
  rw[b8_take];simpa using h
 ·have:a=none:=by
   revert e
   split
   ·exact id
   ·cases a<;>simp
  have:=hn this
  rw[List.length_take];omega
section
variable {W:World} {f:Nat} {v m er:Int} {fst:Bool} {hv:Value}
theorem fr0 (h:Blk W f 147 #[.int .i64 v,.int .i64 m,.bool fst,hv,.int .i64 er]):W.cell? ⟨f,0,none⟩=some (.int .i64 v):=by rw[h.cell];rfl
theorem fr1 (h:Blk W f 147 #[.int .i64 v,.int .i64 m,.bool fst,hv,.int .i64 er]):W.cell? ⟨f,1,none⟩=some (.int .i64 m):=by rw[h.cell];rfl
theorem fr2 (h:Blk W f 147 #[.int .i64 v,.int .i64 m,.bool fst,hv,.int .i64 er]):W.cell? ⟨f,2,none⟩=some (.bool fst):=by rw[h.cell];rfl
theorem fr3 (h:Blk W f 147 #[.int .i64 v,.int .i64 m,.bool fst,hv,.int .i64 er]):W.cell? ⟨f,3,none⟩=some (hv):=by rw[h.cell];rfl
theorem fr4 (h:Blk W f 147 #[.int .i64 v,.int .i64 m,.bool fst,hv,.int .i64 er]):W.cell? ⟨f,4,none⟩=some (.int .i64 er):=by rw[h.cell];rfl
end
theorem fnil_any (w:World):Calls Tryz.prog 39 #[.pointer none] w (fun e w'=>e=.returned (.int .i64 1)∧Kept No w w')∧Calls Tryz.prog 38 #[.pointer none] w (fun e w'=>e=.returned (.int .i64 0)∧Kept No w w'):=by
 constructor
 ·go_enter Tryz.func39,Tryz.ntmps39
  go_wp2
  go_ret
  exact ⟨rfl,Kept.refl _ _⟩
 ·go_enter Tryz.func38,Tryz.ntmps38
  go_wp2
  go_ret
  exact ⟨rfl,Kept.refl _ _⟩
section
variable {w:World} {f:Nat} {v m er:Int} {fst:Bool} {hv:Value}
theorem ferr_any (hB:Blk w f 147 #[.int .i64 v,.int .i64 m,.bool fst,hv,.int .i64 er]):Calls Tryz.prog 39 #[.pointer (some ⟨f,0,none⟩)] w fun e w'=>e=.returned (.int .i64 er)∧Kept No w w':=by
 have c4:=fr4 hB
 go_enter Tryz.func39,Tryz.ntmps39
 go_wp2
 go_ret
 exact ⟨rfl,Kept.refl _ _⟩
theorem fheld_any {a:Option Addr} {n c:Nat} (hB:Blk w f 147 #[.int .i64 v,.int .i64 m,.bool fst,.slice a n c,.int .i64 er]):Calls Tryz.prog 38 #[.pointer (some ⟨f,0,none⟩)] w fun e w'=>e=.returned (.int .i64 (n:Int))∧Kept No w w':=by
 have c3:=fr3 hB
 go_enter Tryz.func38,Tryz.ntmps38
 go_wp2
 go_ret
 exact ⟨rfl,Kept.refl _ _⟩
end
def NewR (w:World) (v m:Int) (fst:Bool) (u:Value) (W:World):Prop:=∃ b,u=.tuple #[.pointer (some ⟨b,0,none⟩),.int .i64 0]∧w.heap.size≤b∧Blk W b 147 #[.int .i64 v,.int .i64 m,.bool fst,.slice none 0 0,.int .i64 0]
def NewOk (v m:Int):Prop:=(v=4∨v=5)∧2≤m
theorem fnew_any (v m:Int) (fst:Bool) (w:World):Calls Tryz.prog 32 #[.int .i64 v,.int .i64 m,.bool fst] w fun e w'=>(¬ NewOk v m∧e=.returned (.tuple #[.pointer none,.int .i64 1])∧Kept No w w')∨(NewOk v m∧∃ u,e=.returned u∧NewR w v m fst u w'∧Kept No w w'):=by
 let RR:Ending→World→Prop:=fun e w'=>(¬ NewOk v m∧e=.returned (.tuple #[.pointer none,.int .i64 1])∧Kept No w w')∨(NewOk v m∧∃ u,e=.returned u∧NewR w v m fst u w'∧Kept No w w')
 go_enter Tryz.func32,Tryz.ntmps32
 generalize hA:({ tmps:=_,defers:=[] }:Act)=A;have F:Fr A 23 [(2,(.bool fst)),(1,(.int .i64 m)),(0,(.int .i64 v))]:=by rw[← hA];exact (Fr.cons (i:=2) (v:=(.bool fst)) (Fr.cons (i:=1) (v:=(.int .i64 m)) (Fr.cons (i:=0) (v:=(.int .i64 v)) (Fr.nil0 rfl rfl) rfl) rfl) rfl)
 clear hA;have H:=Hp.start w;refine wp_seq_k (fun K1 hK1=>gx_region ?_)
 iterate 2 (refine zd ?_;intro A F)
 refine wpList_nil (hK1 _ _ ?_);refine wp_seq_k (fun K2 hK2=>?_);refine wp_seq_k (fun K3 hK3=>gx_region ?_);refine zd ?_;intro A F;refine zb (rn_neq) ?_;intro A F;refine zd ?_;intro A F;refine zg ?_;intro A F;refine zgb (rn_neq) ?_;intro A F;refine hz_do F rfl (ex_pickA rfl (F.e rfl) (fun hx=>(F.o rfl hx)) rfl) ?_;intro A F;refine zd ?_;intro A F;refine zg ?_;intro A F;refine zgb (rn_lss) ?_;intro A F;refine hz_do F rfl (ex_pickO rfl (F.e rfl) (fun hx=>(F.o rfl (gnt hx))) rfl) ?_;intro A F;refine wpList_nil (hK3 _ _ ?_);refine zc (fun hb4=>?_) (fun hb4=>?_)
 ·skip
  refine wp_seq_k (fun K5 hK5=>gx_region ?_)
  iterate 2 (refine zd ?_;intro A F)
  refine wpList_nil (hK5 _ _ ?_);refine gx_ret ?_;refine (show bodyPost _ Tryz.f32 RR Exit.ret _ _ from zr2 ?_);exact .inl ⟨by have h9:=hb4;simp only[Bool.or_eq_true,Bool.and_eq_true,Bool.not_eq_true',decide_eq_true_eq,decide_eq_false_iff_not]at h9;unfold NewOk;omega,rfl,H.k⟩
 refine wp_skip (hK2 _ _ ?_);refine wp_seq_k (fun K6 hK6=>gx_region ?_)
 iterate 3 (refine zd ?_;intro A F)
 refine hz_do (v:=(.agg #[(.int .i64 v),(.int .i64 m),(.bool fst),(.slice none 0 0),(.int .i64 0)])) F rfl (ex_build rfl (gx_p1 (F.e rfl) (gx_p1 (F.e rfl) (gx_p1 (F.e rfl) gx_p0))) (by kernel_rfl)) ?_;intro A F;refine hz_new (c:=#[(.int .i64 v),(.int .i64 m),(.bool fst),(.slice none 0 0),(.int .i64 0)]) (t:=147) F H rfl (ex_box rfl (F.e rfl) (gx_box _ _)) ?_;clear F A;intro b7 W A hk hN H9 F;clear H;have H:=H9;clear H9;clear hk hN
 iterate 2 (refine zd ?_;intro A F)
 refine wpList_nil (hK6 _ _ ?_);refine gx_ret ?_;refine (show bodyPost _ Tryz.f32 RR Exit.ret _ _ from zr2 ?_);exact .inr ⟨by have h9:=hb4;simp only[Bool.or_eq_false_iff,Bool.and_eq_false_iff,Bool.not_eq_false',decide_eq_true_eq,decide_eq_false_iff_not]at h9;unfold NewOk;omega,_,rfl,⟨b7,rfl,(H.b.at_ (j:=0) rfl).2,(H.b.at_ (j:=0) rfl).1⟩,H.k⟩
def NextR (B:Nat) (v m:Int) (fst:Bool) (l:List UInt8) (u:Value) (W:World):Prop:=(nextE v m fst l=0∧∃ x:It,u=.tuple #[.agg x.cells,.int .i64 0]∧x.p=decP v (l.take (nextN l))∧x.b=l.take (nextN l)∧Aw B x.p x.s W∧W.ownsRow B 5 1 (.slice x.a x.b.length x.c) x.b.length (B8 x.b))∨(nextE v m fst l≠0∧u=.tuple #[.agg itZ,.int .i64 (nextE v m fst l)])
theorem nuZ:NoU itZ:=by
 intro i n;unfold itZ zeroPk;rcases i with _|_|_|_|_|_|_|_|_|_|_|_|_|_|_|_|_|_|_|_|_|_|_|_|_|_|i<;>simp
theorem Aw.no {B B0:Nat} {P:Pk} {s:Sl} {W W':World} (h:Aw B P s W) (hk:Kept No W W') (hB:B0≤B):Aw B0 P s W':=⟨h.at_.kept hk,h.sc,fun b off=>⟨fun e hn=>Nat.le_trans hB ((h.lo b off).1 e hn),fun e hn=>Nat.le_trans hB ((h.lo b off).2 e hn)⟩⟩
set_option maxHeartbeats 8000000 in
theorem fnext_any (v m:Int) (fst:Bool) (hv:Value) (er:Int) (f:Nat) (a:Option Addr) (c:Nat) (l:List UInt8) (w:World) (hB:Blk w f 147 #[.int .i64 v,.int .i64 m,.bool fst,hv,.int .i64 er]) (hr:Row w a (B8 l)) (hn:a=none→l.length=0∧c=0) (hc:l.length≤c) (hl:l.length≤100000) (hT:Tabs w) :
  Calls Tryz.prog 90 #[.pointer (some ⟨f,0,none⟩),.slice a l.length c] w fun e w'=>∃ u,e=.returned u∧NextR w.heap.size v m fst l u w'∧Kept No w w':=by
 let RR:Ending→World→Prop:=fun e w'=>∃ u,e=.returned u∧NextR w.heap.size v m fst l u w'∧Kept No w w'
 go_enter Tryz.func90,Tryz.ntmps90
 generalize hA:({ tmps:=_,defers:=[] }:Act)=A;have F:Fr A 70 [(1,(.slice a l.length c)),(0,(.pointer (some ⟨f,0,none⟩)))]:=by rw[← hA];exact (Fr.cons (i:=1) (v:=(.slice a l.length c)) (Fr.cons (i:=0) (v:=(.pointer (some ⟨f,0,none⟩))) (Fr.nil0 rfl rfl) rfl) rfl)
 clear hA;have H:=Hp.start w;obtain ⟨k,fl,hh,hrr,he⟩:∃ k fl hh hrr,headB l=⟨k,fl,hh,hrr⟩:=⟨_,_,_,_,rfl⟩
 have HC:∀ W,Kept No w W→Calls Tryz.prog 30 #[.slice a l.length c] W fun e w'=>e=.returned (.tuple #[.agg #[.int .i64 k,.int .u8 (fl:Int),.int .i64 hh,.int .i64 (hrr:Int)],.int .i64 (headE l)])∧Kept No W w':=fun W hk=>by have h9:=head_any9 a c l W (hr.keptNo hk) hn hc;rw[he]at h9;exact h9
 refine wp_seq_k (fun K1 hK1=>gx_region ?_);refine hz_new (c:=itZ) (t:=86) F H rfl (ex_alloc rfl (al_86 _)) ?_;clear F A;intro q4 W A hk hN H9 F;clear H;have H:=H9;clear H9;clear hk hN;refine zd ?_;intro A F;refine wpList_nil (hK1 _ _ ?_);refine wp_seq_k (fun K2 hK2=>gx_region ?_);refine zd ?_;intro A F;refine hz_callk F H rfl (ex_call rfl rfl (gx_l1 (F.e rfl) gx_l0) fn_30) (HC _ H.k) ?_;clear F H A;intro W A hk H F;clear hk
 iterate 3 (refine zd ?_;intro A F)
 refine hz_new (c:=#[(.int .i64 0),(.int .u8 0),(.int .i64 0),(.int .i64 0)]) (t:=57) F H rfl (ex_alloc rfl (al_57 _)) ?_;clear F A;intro hb W A hk hN H9 F;clear H;have H:=H9;clear H9;clear hk hN;obtain ⟨W9,hr,hB,hk⟩:=gx_storeAgg (P:=Tryz.prog) (S:=57) (c:=#[(.int .i64 k),(.int .u8 ((fl:Int))),(.int .i64 hh),(.int .i64 ((hrr:Int)))]) _ (H.b.at_ (j:=0) rfl).1 (gs_57 _) rfl (by simp[Value.oneCell']);refine hz_st (ex_store rfl (F.e rfl) (F.e rfl) hr) ?_;clear hr;replace H:Hp _ _ [_,_]:=Hp.turn [] H hk hB;clear hk hB;refine zd ?_;intro A F;refine wpList_nil (hK2 _ _ ?_);refine wp_seq_k (fun K4 hK4=>?_);refine wp_seq_k (fun K5 hK5=>?_);have hfl:=hd_flags l;have hhh:=hd_head l;have hrs:=hd_rest l;rw[he]at hfl hhh hrs;have hhh:0≤hh∧hh≤5:=hhh;have hrs:hrr < 268435456:=hrs;refine gx_region ?_;refine zd ?_;intro A F;refine zb (rn_neq) ?_;intro A F;refine wpList_nil (hK5 _ _ ?_);refine zc (fun hb6=>?_) (fun hb6=>?_)
 ·skip
  refine wp_seq_k (fun K7 hK7=>gx_region ?_);refine hz_do (v:=(.agg itZ)) F rfl (ex_build rfl gx_p0 (by kernel_rfl)) ?_;intro A F;refine zd ?_;intro A F;obtain ⟨W9,hr,hB,hk⟩:=gx_storeAgg (P:=Tryz.prog) (S:=86) (c:=itZ) _ (H.b.at_ (j:=1) rfl).1 (gs_86 _) rfl (by simp[itZ,zeroPk,Value.oneCell']);refine hz_st (ex_store rfl (F.e rfl) (F.e rfl) hr) ?_;clear hr;replace H:Hp _ _ [_,_]:=Hp.turn [_] H hk hB;clear hk hB;refine zd ?_;intro A F;refine wpList_nil (hK7 _ _ ?_);refine gx_ret ?_;refine (show bodyPost _ Tryz.f90 RR Exit.ret _ _ from ?_);exact bodyPost_ret (gx_resc2 rfl (F.g 4 _ rfl) (F.g 5 _ rfl) (gl_agg itZ rfl (ga_86 _) (gs_86 _) (fun i=>H.cs 1 rfl i))) F.d ((by have hE:nextE v m fst l=_:=nextE_1 he (by have h9:=hb6;simp only[Bool.or_eq_true,Bool.and_eq_true,Bool.or_eq_false_iff,Bool.and_eq_false_iff,Bool.not_eq_true',Bool.not_eq_false',decide_eq_true_eq,decide_eq_false_iff_not]at h9;omega);exact ⟨_,rfl,.inr ⟨by rw[hE];exact (by have h9:=hb6;simp only[Bool.or_eq_true,Bool.and_eq_true,Bool.or_eq_false_iff,Bool.and_eq_false_iff,Bool.not_eq_true',Bool.not_eq_false',decide_eq_true_eq,decide_eq_false_iff_not]at h9;omega),by first|(rw[hE];done)|(rw[hE];rfl)⟩,H.k⟩))
 refine wp_skip (hK4 _ _ ?_);refine wp_seq_k (fun K8 hK8=>gx_region ?_)
 iterate 4 (refine zd ?_;intro A F)
 refine hz_do F rfl (ex_bin rfl (F.e rfl) (F.e rfl) (rn_add (gx_wrap_i64 (by omega) (by omega)))) ?_;intro A F;refine zd ?_;intro A F;refine wpList_nil (hK8 _ _ ?_);refine wp_seq_k (fun K9 hK9=>?_);refine wp_block ?_;refine wp_seq_k (fun K10 hK10=>gx_region ?_)
 iterate 2 (refine zd ?_;intro A F)
 refine hz_do F rfl (ex_nil rfl (F.e rfl)) ?_;intro A F;refine hz_fld F rfl rfl (F.e rfl) (fa_147_1 _ _ _) (ag_3 _) (fr1 (hB.kept H.k (fun q9=>q9))) ?_;intro A F;refine zb (rn_gtr) ?_;intro A F;refine zd ?_;intro A F;refine wpList_nil (hK10 _ _ ?_);refine zc (fun hb11=>?_) (fun hb11=>?_)
 ·skip
  refine wp_seq_k (fun K12 hK12=>gx_region ?_);refine hz_do (v:=(.agg itZ)) F rfl (ex_build rfl gx_p0 (by kernel_rfl)) ?_;intro A F;obtain ⟨W9,hr,hB,hk⟩:=gx_storeAgg (P:=Tryz.prog) (S:=86) (c:=itZ) _ (H.b.at_ (j:=1) rfl).1 (gs_86 _) rfl (by simp[itZ,zeroPk,Value.oneCell']);refine hz_st (ex_store rfl (F.e rfl) (F.e rfl) hr) ?_;clear hr;replace H:Hp _ _ [_,_]:=Hp.turn [_] H hk hB;clear hk hB;refine zd ?_;intro A F;refine wpList_nil (hK12 _ _ ?_);refine gx_ret ?_;refine (show bodyPost _ Tryz.f90 RR Exit.ret _ _ from ?_);exact bodyPost_ret (gx_resc2 rfl (F.g 4 _ rfl) (F.g 5 _ rfl) (gl_agg itZ rfl (ga_86 _) (gs_86 _) (fun i=>H.cs 1 rfl i))) F.d ((by have hE:nextE v m fst l=_:=nextE_2 he (by have h9:=hb6;simp only[Bool.or_eq_true,Bool.and_eq_true,Bool.or_eq_false_iff,Bool.and_eq_false_iff,Bool.not_eq_true',Bool.not_eq_false',decide_eq_true_eq,decide_eq_false_iff_not]at h9;omega) (by have h9:=hb11;simp only[Bool.or_eq_true,Bool.and_eq_true,Bool.or_eq_false_iff,Bool.and_eq_false_iff,Bool.not_eq_true',Bool.not_eq_false',decide_eq_true_eq,decide_eq_false_iff_not]at h9;omega);exact ⟨_,rfl,.inr ⟨by rw[hE];exact (by decide),by first|(rw[hE];done)|(rw[hE];rfl)⟩,H.k⟩))
 refine wp_seq_k (fun K13 hK13=>gx_region ?_);refine zd ?_;intro A F;refine hz_do F rfl (ex_nil rfl (F.e rfl)) ?_;intro A F;refine hz_fld F rfl rfl (F.e rfl) (fa_147_2 _ _ _) (ag_4 _) (fr2 (hB.kept H.k (fun q9=>q9))) ?_;intro A F;refine zd ?_;intro A F
 iterate 2 (refine zg ?_;intro A F)
 refine zgb (rn_neq) ?_;intro A F;refine hz_do F rfl (ex_pickA rfl (F.e rfl) (fun hx=>(F.o rfl hx)) rfl) ?_;intro A F;refine zd ?_;intro A F;refine wpList_nil (hK13 _ _ ?_);refine zc (fun hb14=>?_) (fun hb14=>?_)
 ·skip
  refine wp_seq_k (fun K15 hK15=>gx_region ?_);refine hz_do (v:=(.agg itZ)) F rfl (ex_build rfl gx_p0 (by kernel_rfl)) ?_;intro A F;obtain ⟨W9,hr,hB,hk⟩:=gx_storeAgg (P:=Tryz.prog) (S:=86) (c:=itZ) _ (H.b.at_ (j:=1) rfl).1 (gs_86 _) rfl (by simp[itZ,zeroPk,Value.oneCell']);refine hz_st (ex_store rfl (F.e rfl) (F.e rfl) hr) ?_;clear hr;replace H:Hp _ _ [_,_]:=Hp.turn [_] H hk hB;clear hk hB;refine zd ?_;intro A F;refine wpList_nil (hK15 _ _ ?_);refine gx_ret ?_;refine (show bodyPost _ Tryz.f90 RR Exit.ret _ _ from ?_);exact bodyPost_ret (gx_resc2 rfl (F.g 4 _ rfl) (F.g 5 _ rfl) (gl_agg itZ rfl (ga_86 _) (gs_86 _) (fun i=>H.cs 1 rfl i))) F.d ((by have hE:nextE v m fst l=_:=nextE_3 he (by have h9:=hb6;simp only[Bool.or_eq_true,Bool.and_eq_true,Bool.or_eq_false_iff,Bool.and_eq_false_iff,Bool.not_eq_true',Bool.not_eq_false',decide_eq_true_eq,decide_eq_false_iff_not]at h9;omega) (by have h9:=hb11;simp only[Bool.or_eq_true,Bool.and_eq_true,Bool.or_eq_false_iff,Bool.and_eq_false_iff,Bool.not_eq_true',Bool.not_eq_false',decide_eq_true_eq,decide_eq_false_iff_not]at h9;omega) (by have h9:=hb14;simp only[Bool.and_eq_true,Bool.not_eq_true',decide_eq_false_iff_not]at h9;exact h9);exact ⟨_,rfl,.inr ⟨by rw[hE];exact (by decide),by first|(rw[hE];done)|(rw[hE];rfl)⟩,H.k⟩))
 refine wp_seq_k (fun K16 hK16=>gx_region ?_)
 iterate 2 (refine zd ?_;intro A F)
 refine hz_do F rfl (ex_len rfl (gx_l1 (F.e rfl) gx_l0) (rn_lens Tryz.underlying25)) ?_;intro A F;refine zb (rn_gtr) ?_;intro A F;refine zd ?_;intro A F;refine wpList_nil (hK16 _ _ ?_);refine zc (fun hb17=>?_) (fun hb17=>?_)
 ·skip
  refine wp_seq_k (fun K18 hK18=>gx_region ?_);refine hz_do (v:=(.agg itZ)) F rfl (ex_build rfl gx_p0 (by kernel_rfl)) ?_;intro A F;obtain ⟨W9,hr,hB,hk⟩:=gx_storeAgg (P:=Tryz.prog) (S:=86) (c:=itZ) _ (H.b.at_ (j:=1) rfl).1 (gs_86 _) rfl (by simp[itZ,zeroPk,Value.oneCell']);refine hz_st (ex_store rfl (F.e rfl) (F.e rfl) hr) ?_;clear hr;replace H:Hp _ _ [_,_]:=Hp.turn [_] H hk hB;clear hk hB;refine zd ?_;intro A F;refine wpList_nil (hK18 _ _ ?_);refine gx_ret ?_;refine (show bodyPost _ Tryz.f90 RR Exit.ret _ _ from ?_);exact bodyPost_ret (gx_resc2 rfl (F.g 4 _ rfl) (F.g 5 _ rfl) (gl_agg itZ rfl (ga_86 _) (gs_86 _) (fun i=>H.cs 1 rfl i))) F.d ((by have hE:nextE v m fst l=_:=nextE_4 he (by have h9:=hb6;simp only[Bool.or_eq_true,Bool.and_eq_true,Bool.or_eq_false_iff,Bool.and_eq_false_iff,Bool.not_eq_true',Bool.not_eq_false',decide_eq_true_eq,decide_eq_false_iff_not]at h9;omega) (by have h9:=hb11;simp only[Bool.or_eq_true,Bool.and_eq_true,Bool.or_eq_false_iff,Bool.and_eq_false_iff,Bool.not_eq_true',Bool.not_eq_false',decide_eq_true_eq,decide_eq_false_iff_not]at h9;omega) (fun q=>by have h9:=hb14;rw[q.1]at h9;have h8:=q.2;revert h9;simp[h8]) (by have h9:=hb17;simp only[Bool.or_eq_true,Bool.and_eq_true,Bool.or_eq_false_iff,Bool.and_eq_false_iff,Bool.not_eq_true',Bool.not_eq_false',decide_eq_true_eq,decide_eq_false_iff_not]at h9;omega);exact ⟨_,rfl,.inr ⟨by rw[hE];exact (by decide),by first|(rw[hE];done)|(rw[hE];rfl)⟩,H.k⟩))
 refine wp_skip (hK9 _ _ ?_);have h1:headE l=0:=(by have h9:=hb6;simp only[Bool.or_eq_true,Bool.and_eq_true,Bool.or_eq_false_iff,Bool.and_eq_false_iff,Bool.not_eq_true',Bool.not_eq_false',decide_eq_true_eq,decide_eq_false_iff_not]at h9;omega)
 have h4:¬ (l.length:Int) < hh+(hrr:Int):=of_decide_eq_false hb17;have hN:nextN l=(hh+(hrr:Int)).toNat:=by unfold nextN;rw[he]
 obtain ⟨a5,hsl,hr5,hn5,hc5⟩:=slice_takeW a c l (nextN l) hc;have hNs:((min l.length (nextN l):Nat):Int)=hh+(hrr:Int):=by omega
 rw[hNs]at hsl;have hL5:(l.take (nextN l)).length≤l.length:=by rw[List.length_take];omega
 have h5:nextE v m fst l=decE v (l.take (nextN l)):=nextE_5 he h1 (by have h9:=hb11;simp only[Bool.or_eq_true,Bool.and_eq_true,Bool.or_eq_false_iff,Bool.and_eq_false_iff,Bool.not_eq_true',Bool.not_eq_false',decide_eq_true_eq,decide_eq_false_iff_not]at h9;omega) (fun q=>by have h9:=hb14;rw[q.1]at h9;have h8:=q.2;revert h9;simp[h8]) h4;obtain ⟨L,hL⟩:∃ L,l.take (nextN l)=L:=⟨_,rfl⟩;rw[hL]at hsl hr5 hn5 hc5 hL5 h5;refine hz_cut (fun A W=>∃ p9:Nat,∃ s9:Sl,∃ B1:Nat,Fr A 70 [(1,(.slice a l.length c)),(4,(.pointer (some ⟨q4,0,none⟩))),(5,(.int .i64 0)),(7,(.int .i64 ((decE v L)))),(8,(.int .i64 (hh+((hrr:Int))))),(9,(.pointer (some ⟨p9,0,none⟩)))]∧Hp w W [⟨p9,33,(Pk.cells (decP v L) s9)⟩,⟨hb,57,#[(.int .i64 k),(.int .u8 ((fl:Int))),(.int .i64 hh),(.int .i64 ((hrr:Int)))]⟩,⟨q4,86,itZ⟩]∧(Aw B1 (decP v L) s9 W)∧(q4 < B1∧w.heap.size≤B1)) (fun A W hM=>?_) (fun K19 hK19=>?_)
 rotate_left
 ·skip
  refine wp_region_held_drew (S:=fun wx=>Hp _ wx _) (by kernel_rfl) H.drew (fun H9=>?_);clear H;have H:=H9;clear H9;generalize World.drew _=W at *;refine td 0 ?_;intro A F;refine hzh_do (i:=1) F rfl rfl (by kernel_rfl) (fun _ _ _ h=>h) (H) (fun wz H=>(ex_nil rfl (F.e rfl))) ?_;intro A F;refine td 2 ?_;intro A F;refine hzh_do (i:=3) F rfl rfl (by kernel_rfl) (fun _ _ _ h=>h) (H) (fun wz H=>(ex_load rfl (F.e rfl) (gl_one (ag_3 _) (fr0 (hB.kept H.k (fun q9=>q9)))))) ?_;intro A F;refine td 4 ?_;intro A F;refine td 5 ?_;intro A F;refine hzh_do (v:=(.slice a5 L.length c)) (i:=6) F rfl rfl (by kernel_rfl) (fun _ _ _ h=>h) (H) (fun wz H=>(ex_slice rfl (F.e rfl) rfl (congrArg some (F.e rfl)) rfl (hsl _))) ?_;intro A F;refine hb_two (i:=7) (j:=11) (by kernel_rfl) ?_ ?_
  ·skip
   have hs9:=H.size;have hl4:=(H.b.at_ (j:=1) rfl).1.lt;refine hb_call (i:=7) (R:=DecR _ v L) F rfl rfl (ex_call rfl rfl (gx_l1 (F.e rfl) (gx_l1 (F.e rfl) gx_l0)) fn_24) (decode_any9 v a5 c L _ (hr5 _ (hr.keptNo H.k)) (hn5 hn) hc5 (by omega) (hT.kept H.k)) (fun _ hk=>(H.kept hk)) ?_;clear F A;intro vv W A hR hk _ F;replace H:=H.kept hk;obtain ⟨s20,rfl,hA⟩:=hR;clear hk;obtain ⟨w9,KA,hA⟩:∃ w1,Kept No w1 W∧Aw _ (decP v L) s20 w1:=⟨W,Kept.refl No W,hA⟩
   refine td 8 ?_;intro A F;refine td 9 ?_;intro A F;refine td 10 ?_;intro A F;refine hb_one (i:=11) (by kernel_rfl) (hb_blk (i:=11) (c:=zeroPk) (t:=33) (fun b9=>.pointer (some ⟨b9,0,none⟩)) F H rfl rfl (ex_alloc rfl (al_33 _)) (fun _ _ H=>H.tl) ?_);clear F A;intro b21 W A hk hN H9 F;clear H;have H:=H9;clear H9;have hN_KA_b21:=Nat.le_trans KA.size hN;replace KA:=KA.trans hk;clear hk hN;obtain ⟨W9,hr,hB,hk⟩:=gx_storeAgg (P:=Tryz.prog) (S:=33) (c:=(Pk.cells ((decP v L)) s20)) _ (H.b.at_ (j:=0) rfl).1 (gs_33 _) rfl (pk_one _ _);replace KA:=KA.then hk (fun i9 hi9 e9=>by have e9:i9=b21:=e9;have:=hN_KA_b21;omega);replace H:Hp _ _ [_,_,_]:=Hp.turn [] H hk hB;clear hk hB;refine hb_one (i:=12) (by kernel_rfl) (hb_st (i:=12) rfl (ex_store rfl (F.e rfl) (F.e rfl) hr) (H.tl) ?_);clear hr;refine hzh_do (i:=13) F rfl rfl (by kernel_rfl) (fun _ _ _ h=>h) (H.tl) (fun wz H=>(ex_assign rfl (F.e rfl))) ?_;intro A F;refine wpAnyH_done (by kernel_rfl) ?_ _;exact hK19 _ _ ⟨b21,s20,_,((((((F.nil.cons (F.g 9 _ rfl)).cons (F.g 8 _ rfl)).cons (F.g 7 _ rfl)).cons (F.g 5 _ rfl)).cons (F.g 4 _ rfl)).cons (F.g 1 _ rfl)),H,hA.no KA (Nat.le_refl _),⟨hl4,hs9⟩⟩
  ·skip
   refine hb_blk (i:=11) (c:=zeroPk) (t:=33) (fun b9=>.pointer (some ⟨b9,0,none⟩)) F H rfl rfl (ex_alloc rfl (al_33 _)) (fun _ _ H=>H.tl) ?_;clear F A;intro b22 W A hk hN H9 F;clear H;have H:=H9;clear H9;clear hk hN;have hs9:=H.size;have hl4:=(H.b.at_ (j:=2) rfl).1.lt;have hlp:=(H.b.at_ (j:=0) rfl).1.lt;refine hb_one (i:=7) (by kernel_rfl) (hb_call (i:=7) (R:=DecR _ v L) F rfl rfl (ex_call rfl rfl (gx_l1 (F.e rfl) (gx_l1 (F.e rfl) gx_l0)) fn_24) (decode_any9 v a5 c L _ (hr5 _ (hr.keptNo H.k)) (hn5 hn) hc5 (by omega) (hT.kept H.k)) (fun _ hk=>(H.kept hk).tl) ?_);clear F A;intro vv W A hR hk _ F;replace H:=H.kept hk;obtain ⟨s23,rfl,hA⟩:=hR;clear hk;obtain ⟨w9,KA,hA,hp9⟩:∃ w1,Kept No w1 W∧Aw _ (decP v L) s23 w1∧Blk w1 b22 33 zeroPk:=⟨W,Kept.refl No W,hA,(H.b.at_ (j:=0) rfl).1⟩
   refine hzh_do (i:=8) F rfl rfl (by kernel_rfl) (fun _ _ _ h=>h) (H.tl) (fun wz H=>(ex_move rfl (F.e rfl))) ?_;intro A F;refine hzh_do (i:=9) F rfl rfl (by kernel_rfl) (fun _ _ _ h=>h) (H.tl) (fun wz H=>(ex_extract rfl (F.e rfl) rfl)) ?_;intro A F;refine hzh_do (i:=10) F rfl rfl (by kernel_rfl) (fun _ _ _ h=>h) (H.tl) (fun wz H=>(ex_extract rfl (F.e rfl) rfl)) ?_;intro A F;obtain ⟨W9,hr,hB,hk⟩:=gx_storeAgg (P:=Tryz.prog) (S:=33) (c:=(Pk.cells ((decP v L)) s23)) _ (H.b.at_ (j:=0) rfl).1 (gs_33 _) rfl (pk_one _ _);obtain ⟨w9,KA,hA⟩:∃ w1,Kept No w1 _∧Aw _ (decP v L) s23 w1:=⟨_,Kept.refl No _,hA.fin (kept_to KA hk) hp9 (nuPk (zk 0) ts) hlp (Nat.le_refl _)⟩
   replace H:Hp _ _ [_,_,_]:=Hp.turn [] H hk hB;clear hk hB;refine hb_one (i:=12) (by kernel_rfl) (hb_st (i:=12) rfl (ex_store rfl (F.e rfl) (F.e rfl) hr) (H.tl) ?_);clear hr;refine hzh_do (i:=13) F rfl rfl (by kernel_rfl) (fun _ _ _ h=>h) (H.tl) (fun wz H=>(ex_assign rfl (F.e rfl))) ?_;intro A F;refine wpAnyH_done (by kernel_rfl) ?_ _;exact hK19 _ _ ⟨b22,s23,_,((((((F.nil.cons (F.g 9 _ rfl)).cons (F.g 8 _ rfl)).cons (F.g 7 _ rfl)).cons (F.g 5 _ rfl)).cons (F.g 4 _ rfl)).cons (F.g 1 _ rfl)),H,hA.no KA (Nat.le_refl _),⟨hl4,hs9⟩⟩
 clear F H;obtain ⟨p9,s9,B1,F,H,hA,hB1⟩:=hM;obtain ⟨w9,KA,hA,hq4⟩:∃ w1,Kept No w1 W∧Aw B1 (decP v L) s9 w1∧Blk w1 q4 86 itZ:=⟨W,Kept.refl No W,hA,(H.b.at_ (j:=2) rfl).1⟩
 refine wp_seq_k (fun K24 hK24=>?_);refine wp_seq_k (fun K25 hK25=>gx_region ?_);refine zd ?_;intro A F;refine zb (rn_neq) ?_;intro A F;refine wpList_nil (hK25 _ _ ?_);refine zc (fun hb26=>?_) (fun hb26=>?_)
 ·skip
  refine wp_seq_k (fun K27 hK27=>gx_region ?_);refine hz_do (v:=(.agg itZ)) F rfl (ex_build rfl gx_p0 (by kernel_rfl)) ?_;intro A F;refine zd ?_;intro A F;obtain ⟨W9,hr,hB,hk⟩:=gx_storeAgg (P:=Tryz.prog) (S:=86) (c:=itZ) _ (H.b.at_ (j:=2) rfl).1 (gs_86 _) rfl (by simp[itZ,zeroPk,Value.oneCell']);refine hz_st (ex_store rfl (F.e rfl) (F.e rfl) hr) ?_;clear hr;replace H:Hp _ _ [_,_,_]:=Hp.turn [_,_] H hk hB;clear hk hB;refine zd ?_;intro A F;refine wpList_nil (hK27 _ _ ?_);refine gx_ret ?_;refine (show bodyPost _ Tryz.f90 RR Exit.ret _ _ from ?_);exact bodyPost_ret (gx_resc2 rfl (F.g 4 _ rfl) (F.g 5 _ rfl) (gl_agg itZ rfl (ga_86 _) (gs_86 _) (fun i=>H.cs 2 rfl i))) F.d ((by have hE:nextE v m fst l=_:=h5;exact ⟨_,rfl,.inr ⟨by rw[hE];exact (by have h9:=hb26;simp only[Bool.or_eq_true,Bool.and_eq_true,Bool.or_eq_false_iff,Bool.and_eq_false_iff,Bool.not_eq_true',Bool.not_eq_false',decide_eq_true_eq,decide_eq_false_iff_not]at h9;omega),by first|(rw[hE];done)|(rw[hE];rfl)⟩,H.k⟩))
 refine wp_skip (hK24 _ _ ?_);refine wp_seq_k (fun K28 hK28=>?_);refine wp_region_held_drew (S:=fun wx=>∃ c9,Hp _ wx [_,_,⟨q4,86,c9⟩]) (by kernel_rfl) ⟨_,H.drew⟩ (fun H9=>?_);clear H9;replace H:=H.drew;replace KA:=KA.trans (Kept.refl No _).drew;generalize World.drew _=W at *;refine hzh_do (v:=(Pk.val ((decP v L)) s9)) (i:=0) F rfl rfl (by kernel_rfl) (fun _ _ _ h=>h) (⟨_,H⟩) (fun wz ⟨c9,H⟩=>(ex_load rfl (F.e rfl) (gl_agg ((Pk.cells (decP v L) s9)) rfl (ga_33 _) (gs_33 _) (fun i=>H.cs 0 rfl i)))) ?_;intro A F;refine td 1 ?_;intro A F;refine td 2 ?_;intro A F;refine hzh_do (v:=(.slice a5 L.length c)) (i:=3) F rfl rfl (by kernel_rfl) (fun _ _ _ h=>h) (⟨_,H⟩) (fun wz ⟨c9,H⟩=>(ex_slice rfl (F.e rfl) rfl (congrArg some (F.e rfl)) rfl (hsl _))) ?_;intro A F;refine hb_one (i:=4) (by kernel_rfl) (hb_call (i:=4) (R:=fun vv ww=>∃ a1 c1,vv=.slice a1 L.length c1∧ww.ownsRow w.heap.size 5 1 (.slice a1 L.length c1) L.length (B8 L)) F rfl rfl (ex_call rfl rfl (gx_l1 (F.e rfl) gx_l0) fn_91) ((bclone_any a5 c L _ (hr5 _ (hr.keptNo H.k)) (hn5 hn) (by omega)).mono fun e9 ww ⟨a9,c9,h91,h92,h93⟩=>⟨_,h91,⟨a9,c9,rfl,og_base h92 H.size⟩,h93⟩) (fun _ hk=>⟨_,(H.kept hk)⟩) ?_);clear F A;intro vv W A hR hk _ F;replace H:=H.kept hk;obtain ⟨ac,cc,rfl,hC⟩:=hR;replace KA:=KA.trans hk;clear hk;refine hzh_do (v:=(.agg (itC (decP v L) s9 (.slice ac L.length cc)))) (i:=5) F rfl rfl (by kernel_rfl) (fun _ _ _ h=>h) (⟨_,H⟩) (fun wz ⟨c9,H⟩=>(ex_build rfl (gx_p1 (F.e rfl) (gx_p1 (F.e rfl) gx_p0)) (by kernel_rfl))) ?_;intro A F;obtain ⟨W9,hr,hB,hk⟩:=gx_storeAgg (P:=Tryz.prog) (S:=86) (c:=(itC ((decP v L)) s9 (.slice ac L.length cc))) _ (H.b.at_ (j:=2) rfl).1 (gs_86 _) rfl (itC_one _ _ _ _ _);replace hC:=og_far hC (H.b.at_ (j:=2) rfl).1 (show 86≠5 by decide) hk;replace KA:=kept_to KA hk;replace H:Hp _ _ [_,_,_]:=Hp.turn [_,_] H hk hB;clear hk hB;refine hb_one (i:=6) (by kernel_rfl) (hb_st (i:=6) rfl (ex_store rfl (F.e rfl) (F.e rfl) hr) (⟨_,H⟩) ?_);clear hr;refine td 7 ?_;intro A F;refine wpAnyH_done (by kernel_rfl) ?_ _;refine hK28 _ _ ?_;refine gx_ret ?_;refine (show bodyPost _ Tryz.f90 RR Exit.ret _ _ from ?_);exact bodyPost_ret (gx_resc2 rfl (F.g 4 _ rfl) (F.g 5 _ rfl) (gl_agg ((itC ((decP v L)) s9 (.slice ac L.length cc))) rfl (ga_86 _) (gs_86 _) (fun i=>H.cs 2 rfl i))) F.d (⟨_,rfl,.inl ⟨h5.trans (by have h9:=hb26;simp only[Bool.or_eq_true,Bool.and_eq_true,Bool.or_eq_false_iff,Bool.and_eq_false_iff,Bool.not_eq_true',Bool.not_eq_false',decide_eq_true_eq,decide_eq_false_iff_not]at h9;omega),⟨decP v L,s9,L,ac,cc⟩,rfl,by rw[hL],hL.symm,hA.fin KA hq4 nuZ hB1.1 hB1.2,hC⟩,H.k⟩)
theorem info_item:(Tryz.prog.info? 86).map (fun i=>(i.zero,i.size,i.bytes))=some (some (.agg itZ),26,272):=by kernel_rfl
def T9 (f:Nat) (hv:Value):Nat→Prop:=fun i=>i=f∨Sv hv i
structure FeedR (w:World) (f:Nat) (v m:Int) (Bh:Nat) (hv:Value) (I:List (Pk × List UInt8)) (fst':Bool) (h':List UInt8) (e':Int) (x:List It × (Option Addr × Nat) × (Option Addr × Nat)) (u:Value) (W:World):Prop where
 u:u=.tuple #[.slice x.2.1.1 x.1.length x.2.1.2,.int .i64 e']
 L:x.1.map It.pb=I
 it:W.ownsRow w.heap.size 86 26 (.slice x.2.1.1 x.1.length x.2.1.2) x.1.length (IC x.1)
 bs:∀ y∈x.1,W.ownsRow w.heap.size 5 1 (.slice y.a y.b.length y.c) y.b.length (B8 y.b)
 fb:Blk W f 147 #[.int .i64 v,.int .i64 m,.bool fst',.slice x.2.2.1 h'.length x.2.2.2,.int .i64 e']
 ho:W.ownsRow Bh 5 1 (.slice x.2.2.1 h'.length x.2.2.2) h'.length (B8 h')
 k:Kept (T9 f hv) w W
theorem slice_dropW (a:Option Addr) (c:Nat) (l:List UInt8) (k:Nat) (hc:l.length≤c) (hk:k≤l.length):∃ a5 c5,(∀ wz:World,(Instr.sliceAt 25 (.slice a l.length c) (some (.int .i64 (k:Int))) none none).run Tryz.prog wz=.ok (.slice a5 (l.drop k).length c5) wz)∧(∀ w:World,Row w a (B8 l)→Row w a5 (B8 (l.drop k)))∧((a=none→l.length=0∧c=0)→a5=none→(l.drop k).length=0∧c5=0)∧(l.drop k).length≤c5:=by
 refine ⟨(if c=k then a else a.map (·.add k)),c - k,fun wz=>?_,fun w hr=>?_,fun hn e=>?_,by rw[List.length_drop];omega⟩
 ·rw[run_sliceAt_slice _ _ _ _ _ _ und8,run_slice_l _ _ _ _ _ und8 .i64 _ (by omega) (by omega),sz8]
  simp only[Result.andThen,sliced,Int.toNat_natCast,List.length_drop,Nat.mul_one]
 ·have h:=hr.drop (k:=k) (cap:=c) (by simp[B8];omega)
  rw[b8_drop];exact h
 ·have:a=none:=by
   revert e
   split
   ·exact id
   ·cases a<;>simp
  have:=hn this
  rw[List.length_drop];omega
theorem own_cap9 {w:World} {base n c size:Nat} {e:TypeId} {a:Option Addr} {xs:List Value} (h:w.ownsRow base e size (.slice a n c) n xs):n≤c:=by
 rcases h.2 with ⟨hv,h0⟩|⟨g,cap,cur,hv,hg,hb,hn,hm,hs,hx⟩
 ·omega
 ·injection hv with e1 e2 e3
  omega
section
variable {W:World} {la a8:Option Addr} {lc c8 Bh:Nat} {lf l0:List UInt8} {e9:Int}
theorem held_fin (h:e9=0→la=a8∧lc=c8∧lf=l0) (hb:e9≠0→la=none∧lc=0∧lf=[]) (ho:W.ownsRow Bh 5 1 (.slice a8 l0.length c8) l0.length (B8 l0)):W.ownsRow Bh 5 1 (.slice la lf.length lc) lf.length (B8 lf):=by
 by_cases h0:e9=0
 ·obtain ⟨h1,h2,h3⟩:=h h0
  rw[h1,h2,h3];exact ho
 ·obtain ⟨h1,h2,h3⟩:=hb h0
  rw[h1,h2,h3];exact own_nil _
theorem rl_fin (h:e9=0→Row W la (B8 lf)∧(la=none→lf.length=0∧lc=0)) (hb:e9≠0→la=none∧lc=0∧lf=[]):Row W la (B8 lf)∧(la=none→lf.length=0∧lc=0):=by
 by_cases h0:e9=0
 ·exact h h0
 ·obtain ⟨h1,h2,h3⟩:=hb h0
  rw[h1,h2,h3];exact ⟨.nil _ _,fun _=>⟨rfl,rfl⟩⟩
end
theorem NoByte.of {w:World} {b:Nat} {t:TypeId} {c:Array Value} (hb:Blk w b t c) (h:∀ i n:Nat,c[i]?≠some (.int .u8 n)) (h2:∀ (i:Nat) (n:Int),c[i]?≠some (.int .u8 n)):NoByte w b:=fun off n hx=>h2 off n (by rw[← hb.cell off];exact hx)
theorem fr_nobyte {w:World} {f:Nat} {v m er:Int} {fst:Bool} {a:Option Addr} {n c:Nat} (hB:Blk w f 147 #[.int .i64 v,.int .i64 m,.bool fst,.slice a n c,.int .i64 er]):∀ b,One f b→b < w.heap.size→NoByte w b:=fun b e _=>by
 have e:b=f:=e;subst e;refine NoByte.of hB (fun i n=>?_) (fun i n=>?_)<;>(rcases i with _|_|_|_|_|i<;>simp)
theorem feedS_err {v m:Int} {S:Fs} {b:List UInt8} (h:S.e≠0):feedS v m S b=([],S):=if_pos h
theorem feedS_ok {v m:Int} {S:Fs} {b l0:List UInt8} {L:List It} {lf:List UInt8} {e:Int} (h:¬ S.e≠0) (hl:l0=S.h++b) (hG:feedG v m l0.length S.fst l0=(L.map It.pb,lf,e)):feedS v m S b=(L.map It.pb,⟨S.fst&&L.isEmpty,lf,e⟩):=by
 subst hl;refine (if_neg h).trans ?_;rw[hG];simp
theorem feedG_len (v m:Int):∀ (n:Nat) (fst:Bool) (l:List UInt8),(feedG v m n fst l).2.1.length≤l.length
 | 0,_,l=>Nat.le_refl _
 | n+1,fst,l=>by
  unfold feedG
  split
  ·refine Nat.le_trans (feedG_len v m n false _) ?_
   rw[List.length_drop];omega
  ·split
   ·exact Nat.le_refl _
   ·exact Nat.zero_le _
set_option maxHeartbeats 8000000 in
theorem feed_any (w0 w:World) (f:Nat) (v m:Int) (fst:Bool) (er:Int) (ha:Option Addr) (hc0:Nat) (hl:List UInt8) (Bh:Nat) (hBh:w0.heap.size≤Bh) (hBw:Bh≤w.heap.size) (H:Hp w0 w [⟨f,147,#[.int .i64 v,.int .i64 m,.bool fst,.slice ha hl.length hc0,.int .i64 er]⟩]) (hO:w.ownsRow Bh 5 1 (.slice ha hl.length hc0) hl.length (B8 hl)) (a:Option Addr) (c:Nat) (bs:List UInt8) (hr:Row w a (B8 bs)) (hn:a=none→bs.length=0∧c=0) (hlen:hl.length+bs.length≤100000) (hT:Tabs w0) (I:List (Pk × List UInt8)) (fst':Bool) (h':List UInt8) (e':Int) (hfd:feedS v m ⟨fst,hl,er⟩ bs=(I,⟨fst',h',e'⟩)) :
  Calls Tryz.prog 34 #[.pointer (some ⟨f,0,none⟩),.slice a bs.length c] w fun e w'=>∃ u,∃ x:List It × (Option Addr × Nat) × (Option Addr × Nat),e=.returned u∧FeedR w f v m Bh (.slice ha hl.length hc0) I fst' h' e' x u w':=by
 have HB:=H;clear H;let RR:Ending→World→Prop:=fun e w'=>∃ u,∃ x:List It × (Option Addr × Nat) × (Option Addr × Nat),e=.returned u∧FeedR w f v m Bh (.slice ha hl.length hc0) I fst' h' e' x u w'
 go_enter Tryz.func34,Tryz.ntmps34
 generalize hA:({ tmps:=_,defers:=[] }:Act)=A;have F:Fr A 63 [(1,(.slice a bs.length c)),(0,(.pointer (some ⟨f,0,none⟩)))]:=by rw[← hA];exact (Fr.cons (i:=1) (v:=(.slice a bs.length c)) (Fr.cons (i:=0) (v:=(.pointer (some ⟨f,0,none⟩))) (Fr.nil0 rfl rfl) rfl) rfl)
 clear hA;have H:=HB;clear HB;have hKN:Kept No w w:=Kept.refl No w;refine wp_seq_k (fun K1 hK1=>gx_region ?_)
 iterate 2 (refine zd ?_;intro A F)
 refine wpList_nil (hK1 _ _ ?_);refine wp_scope_straight ?_;refine wp_seq_k (fun K2 hK2=>?_);refine wp_seq_k (fun K3 hK3=>gx_region ?_);refine zd ?_;intro A F;refine hz_callk F H rfl (ex_call rfl rfl (gx_l1 (F.e rfl) gx_l0) fn_39) (ferr_any (H.b.at_ (j:=0) rfl).1) ?_;clear F H A;intro W A hk H F;replace hKN:=hKN.trans hk;replace hO:=own_keptNo hO hk;clear hk;refine zd ?_;intro A F;refine wpList_nil (hK3 _ _ ?_);refine wp_seq_k (fun K5 hK5=>gx_region ?_);refine zd ?_;intro A F;refine zb (rn_neq) ?_;intro A F;refine wpList_nil (hK5 _ _ ?_);refine zc (fun hb6=>?_) (fun hb6=>?_)
 ·skip
  refine wp_seq_k (fun K7 hK7=>gx_region ?_)
  iterate 3 (refine zd ?_;intro A F)
  refine wpList_nil (hK7 _ _ ?_);refine gx_ret ?_;refine (show bodyPost _ Tryz.f34 RR Exit.ret _ _ from zr2 ?_);exact (by have hE:=feedS_err (v:=v) (m:=m) (S:=⟨fst,hl,er⟩) (b:=bs) (by have h9:=hb6;simpa using h9);have h1:=hfd.symm.trans hE;have e1:I=[]:=congrArg Prod.fst h1;have e2:=congrArg Prod.snd h1;have e3:fst'=fst:=congrArg Fs.fst e2;have e4:h'=hl:=congrArg Fs.h e2;have e5:e'=er:=congrArg Fs.e e2;exact ⟨_,([],(none,0),(ha,hc0)),rfl,by rw[e1,e3,e4,e5];exact ⟨rfl,rfl,own_nil _,by simp,(H.b.at_ (j:=0) rfl).1,hO,hKN.mono (fun _ _ q=>q.elim)⟩⟩)
 refine wp_skip (hK2 _ _ ?_);refine wp_seq_k (fun K8 hK8=>?_);have her:er=0:=(by have h9:=hb6;simpa using h9)
 refine gx_region ?_;refine zd ?_;intro A F;refine wpList_nil (hK8 _ _ ?_);refine wp_seq_k (fun K9 hK9=>gx_region ?_);refine zd ?_;intro A F;refine hz_do F rfl (ex_nil rfl (F.e rfl)) ?_;intro A F
 iterate 3 (refine zd ?_;intro A F)
 obtain ⟨v9,W9,hrun,hO8,hg⟩:=app_bytes hO (hr.keptNo hKN) (fun e=>(hn e).2) (by omega) (Nat.le_trans hBw hKN.size);have hk8:=kept_grown hg;obtain ⟨a8,c8,hv9⟩:=own_slice hO8;subst hv9;replace H:=Hp.grown H (og_base hO hBh) hk8 (fa1 (sv_type hO (H.b.at_ (j:=0) rfl).1 (ne9 rfl)) fa0);have hk08:Kept (T9 f (.slice ha hl.length hc0)) w W9:=(hKN.mono (fun _ _ q=>q.elim)).trans (hk8.mono (fun i _ q=>.inr q));refine hz_do F rfl (ex_builtin rfl (gx_l1 (F.e rfl) (gx_l1 (F.e rfl) gx_l0)) (fun cs=>by simp only[builtin];exact gx_val hrun)) ?_;intro A F;clear hrun hg hk8 hKN hO;generalize W9=W at *;obtain ⟨l0,hl0⟩:∃ l0,l0=hl++bs:=⟨_,rfl⟩;rw[← hl0]at hO8 F;have hll0:l0.length≤100000:=by rw[hl0,List.length_append];exact hlen
 obtain ⟨w8,hw8⟩:∃ w8:World,w8=W:=⟨_,rfl⟩
 have K8:Kept (One f) w8 W:=by rw[hw8];exact Kept.refl _ _
 rw[← hw8]at hO8;have hR8:=(own_row hO8).1;have hN8:=(own_row hO8).2;have hC8:=own_cap9 hO8;have h08:w0.heap.size≤w8.heap.size:=by rw[hw8];exact H.size
 have hw08:w.heap.size≤w8.heap.size:=by rw[hw8];exact hk08.size
 rw[← hw8]at hk08;have hf8:=(H.b.at_ (j:=0) rfl).1;rw[← hw8]at hf8;have hnb:=fr_nobyte hf8;clear hw8;refine zd ?_;intro A F;refine wpList_nil (hK9 _ _ ?_);refine wp_seq_k (fun K10 hK10=>?_);refine wp_label ?_;refine hK10 _ _ ?_;refine hz_cut (fun A W=>∃ L:List It,∃ ia:Option Addr,∃ ic:Nat,∃ la:Option Addr,∃ lc:Nat,∃ lf:List UInt8,∃ fs:Bool,∃ e9:Int,Fr A 63 [(0,(.pointer (some ⟨f,0,none⟩))),(1,(.slice a bs.length c)),(4,(.slice none 0 0)),(5,(.int .i64 0)),(6,(.int .i64 er)),(7,(.slice ia L.length ic)),(8,(.slice la lf.length lc)),(11,(.pointer (some ⟨f,0,none⟩))),(12,(.int .i64 er)),(13,(.int .i64 er)),(14,(.bool (!decide (er=0)))),(16,(.pointer (some ⟨f,0,none⟩))),(17,(.pointer (some ⟨f,0,none⟩))),(18,(.pointer (some ⟨f,3,none⟩))),(19,(.slice ha hl.length hc0)),(20,(.slice a bs.length c)),(21,(.slice a8 l0.length c8))]∧Hp w0 W [⟨f,147,#[(.int .i64 v),(.int .i64 m),(.bool fs),(.slice ha hl.length hc0),(.int .i64 e9)]⟩]∧W.ownsRow w8.heap.size 86 26 (.slice ia L.length ic) L.length ((IC L))∧(feedG v m l0.length fst l0=(L.map It.pb,lf,e9))∧(fs=(fst&&L.isEmpty))∧(e9=0→Row w8 la (B8 lf)∧(la=none→lf.length=0∧lc=0)∧lf.length≤lc)∧(L=[]→e9=0→la=a8∧lc=c8∧lf=l0)∧(e9≠0→la=none∧lc=0∧lf=[])∧(∀ x∈L,W.ownsRow w8.heap.size 5 1 (.slice x.a x.b.length x.c) x.b.length (B8 x.b))∧(Kept (One f) w8 W)) (fun A W hM=>?_) (fun K11 hK11=>?_)
 rotate_left
 ·skip
  refine wp_block ?_;refine hz_loop (fun (n:Nat) A W=>∃ L:List It,∃ ia:Option Addr,∃ ic:Nat,∃ la:Option Addr,∃ lc:Nat,∃ l:List UInt8,∃ fs:Bool,Fr A 63 [(0,(.pointer (some ⟨f,0,none⟩))),(1,(.slice a bs.length c)),(4,(.slice none 0 0)),(5,(.int .i64 0)),(6,(.int .i64 er)),(7,(.slice ia L.length ic)),(8,(.slice la l.length lc)),(11,(.pointer (some ⟨f,0,none⟩))),(12,(.int .i64 er)),(13,(.int .i64 er)),(14,(.bool (!decide (er=0)))),(16,(.pointer (some ⟨f,0,none⟩))),(17,(.pointer (some ⟨f,0,none⟩))),(18,(.pointer (some ⟨f,3,none⟩))),(19,(.slice ha hl.length hc0)),(20,(.slice a bs.length c)),(21,(.slice a8 l0.length c8))]∧Hp w0 W [⟨f,147,#[(.int .i64 v),(.int .i64 m),(.bool fs),(.slice ha hl.length hc0),(.int .i64 er)]⟩]∧W.ownsRow w8.heap.size 86 26 (.slice ia L.length ic) L.length ((IC L))∧(feedG v m l0.length fst l0=(L.map It.pb++(feedG v m n fs l).1,(feedG v m n fs l).2))∧(l.length≤n)∧(L.length+n≤l0.length)∧(fs=(fst&&L.isEmpty))∧(Row w8 la (B8 l))∧(la=none→l.length=0∧lc=0)∧(l.length≤lc)∧(L=[]→la=a8∧lc=c8∧l=l0)∧(∀ x∈L,W.ownsRow w8.heap.size 5 1 (.slice x.a x.b.length x.c) x.b.length (B8 x.b))∧(Kept (One f) w8 W)) (fun n=>n) l0.length ⟨[],none,0,a8,c8,l0,fst,(((((((((((((((((F.nil.cons (F.g 21 _ rfl)).cons (F.g 20 _ rfl)).cons (F.g 19 _ rfl)).cons (F.g 18 _ rfl)).cons (F.g 17 _ rfl)).cons (F.g 16 _ rfl)).cons (F.g 14 _ rfl)).cons (F.g 13 _ rfl)).cons (F.g 12 _ rfl)).cons (F.g 11 _ rfl)).cons (F.g 8 _ rfl)).cons (gx_is (F.g 7 _ rfl) (by rfl))).cons (F.g 6 _ rfl)).cons (F.g 5 _ rfl)).cons (F.g 4 _ rfl)).cons (F.g 1 _ rfl)).cons (F.g 0 _ rfl)),H,own_nil _,by simp,Nat.le_refl _,by simp,by simp,hR8,hN8,hC8,fun _=>⟨rfl,rfl,rfl⟩,by simp,K8⟩ (fun n A W hI J12 hJ12=>?_);clear F H;obtain ⟨L,ia,ic,la,lc,l,fs,F,H,hI,hfg,hnn,hLL,hfs,hL8,hLn,hLc,hLe,hX,K8⟩:=hI;refine wp_block ?_;refine wp_seq_k (fun K13 hK13=>gx_region ?_)
  iterate 2 (refine zd ?_;intro A F)
  have hs8:=K8.size;refine hz_call (R:=NextR _ v m fs l) F H rfl (ex_call rfl rfl (gx_l1 (F.e rfl) (gx_l1 (F.e rfl) gx_l0)) fn_90) (fnext_any v m fs _ er f la lc l _ (H.b.at_ (j:=0) rfl).1 (row_nobyte hL8 K8 hnb) hLn hLc (by omega) (hT.kept H.k)) ?_;clear F H A;intro vv W A hR hk H F;replace K8:=K8.then hk (fun _ _ q=>q.elim);replace hX:=fun x9 hx9=>own_keptNo (hX x9 hx9) hk
  replace hI:=og_kept hI hk;clear hk;rcases hR with ⟨hE,x,rfl,hxp,hxb,-,hxO⟩|⟨hE,rfl⟩
  ·skip
   replace hxO:=og_base hxO hs8;have hxl:x.b.length=nextN l:=by have:=nextN_lt hE;rw[hxb,List.length_take];omega
   have hlt:=nextN_lt hE;have hr9:=feedG_round hfg hnn hE hxp hxb;rw[← hxl]at hr9 hlt
   iterate 3 (refine zd ?_;intro A F)
   refine hz_new (c:=itZ) (t:=86) F H rfl (ex_alloc rfl (al_86 _)) ?_;clear F A;intro it W A hk hN H9 F;clear H;have H:=H9;clear H9;have hN_K8_it:=Nat.le_trans K8.size hN;have hne_hI_it:=og_lt hI hN;replace K8:=K8.then hk (fun _ _ q=>q.elim);replace hX:=fun x9 hx9=>own_keptNo (hX x9 hx9) hk
   replace hxO:=own_keptNo hxO hk;replace hI:=og_kept hI hk;clear hk hN;obtain ⟨W9,hr,hB,hk⟩:=gx_storeAgg (P:=Tryz.prog) (S:=86) (c:=x.cells) _ (H.b.at_ (j:=0) rfl).1 (gs_86 _) rfl (itC_one _ _ _ _ _);replace hI:=og_new hI hne_hI_it hk;replace K8:=K8.then hk (fun i9 hi9 e9=>by have e9:i9=it:=e9;have:=hN_K8_it;omega);replace hX:=fun (x9:It) (hx9:x9∈L)=>og_far (hX x9 hx9) (H.b.at_ (j:=0) rfl).1 (ne9 rfl) hk
   replace hxO:=og_far hxO (H.b.at_ (j:=0) rfl).1 (ne9 rfl) hk;refine hz_st (ex_store rfl (F.e rfl) (F.e rfl) hr) ?_;clear hr;replace H:Hp _ _ [_,_]:=Hp.turn [] H hk hB;clear hk hB;refine zd ?_;intro A F;refine wpList_nil (hK13 _ _ ?_);refine wp_seq_k (fun K14 hK14=>gx_region ?_);refine zd ?_;intro A F;refine wpList_nil (hK14 _ _ ?_);refine wp_block ?_;refine wp_seq_k (fun K15 hK15=>gx_region ?_);refine zb (rn_eql) ?_;intro A F;refine zd ?_;intro A F;refine wpList_nil (hK15 _ _ ?_);refine wp_cond_true (F.e rfl) ?_;refine wp_seq_k (fun K16 hK16=>gx_region ?_);refine zd ?_;intro A F;refine hz_do F rfl (ex_load rfl (F.e rfl) (gl_agg x.cells rfl (ga_86 _) (gs_86 _) (fun i=>H.cs 0 rfl i))) ?_;intro A F;refine hz_bs (c:=x.cells) (t:=86) (m:=1) F H rfl (ex_buildSlice rfl (gx_p1 (F.e rfl) gx_p0) (by kernel_rfl)) ?_;clear F A;intro b17 W A hk hN H9 F;clear H;have H:=H9;clear H9;have hne_hI_b17:=og_lt hI hN;have hN_K8_b17:=Nat.le_trans K8.size hN;replace K8:=K8.then hk (fun _ _ q=>q.elim);replace hX:=fun x9 hx9=>own_keptNo (hX x9 hx9) hk
   replace hxO:=own_keptNo hxO hk;replace hI:=og_kept hI hk;clear hk hN;obtain ⟨L2,hL2⟩:∃ L2,L2=L++[x]:=⟨_,rfl⟩
   obtain ⟨i0,hi,hz0,hz1,hz2⟩:=info_parts info_item;obtain ⟨v9,W9,hrun,hO9,hg,_⟩:=run_append_own (P:=Tryz.prog) _ w8.heap.size 69 69 86 i0 _ 26 272 Tryz.underlying69 hi hz0 hz1 hz2 rfl (by decide) (.slice ia L.length ic) L.length (IC L) hI ⟨b17,0,none⟩ 1 1 x.cells.toList rfl (blk_news (H.b.at_ (j:=0) rfl).1) (one_all rfl) (by unfold maxLen;omega) (by omega) K8.size;rw[show IC L++x.cells.toList=IC L2 by rw[hL2,IC_append,IC_one],show L.length+1=L2.length by rw[hL2];simp]at hO9;have hkS:=kept_grown hg;obtain ⟨a9,c9,hv9⟩:=own_slice hO9;subst hv9;refine hz_do F rfl (ex_builtin rfl (gx_l1 (F.e rfl) (gx_l1 (F.e rfl) gx_l0)) (fun cs=>by simp only[builtin];exact gx_val hrun)) ?_;intro A F;replace H:=Hp.grown H (og_base hI h08) hkS (fa1 (sv_lt hne_hI_b17) (fa1 (sv_lt hne_hI_it) (fa1 (sv_type hI (H.b.at_ (j:=2) rfl).1 (ne9 rfl)) fa0)));replace K8:=K8.then hkS (fun i9 hi9 e9=>by have:=(hI.lt i9 e9).1;omega);replace hX:∀ x∈L2,W9.ownsRow w8.heap.size 5 1 (.slice x.a x.b.length x.c) x.b.length (B8 x.b):=fun x9 hx9=>by rw[hL2]at hx9;rcases List.mem_append.1 hx9 with h9|h9;exact og_other hI (hX x9 h9) (ne9 rfl) hkS;rw[List.mem_singleton.1 h9];exact og_other hI hxO (ne9 rfl) hkS
   clear hrun hg hkS hxO;clear hI;have hI:=hO9;clear hO9;generalize W9=W at *;refine zd ?_;intro A F;refine wpList_nil (hK16 _ _ ?_);refine wp_seq_k (fun K18 hK18=>gx_region ?_)
   iterate 3 (refine zd ?_;intro A F)
   refine hz_do F rfl (ex_len rfl (gx_l1 (F.e rfl) gx_l0) (rn_lens Tryz.underlying25)) ?_;intro A F;obtain ⟨a5,c5,hsl,hrw5,hn5,hc5⟩:=slice_dropW la lc l x.b.length hLc (by omega);refine hz_do (v:=(.slice a5 ((l.drop x.b.length).length) c5)) F rfl (ex_slice rfl (F.e rfl) (congrArg some (F.e rfl)) rfl rfl (hsl _)) ?_;intro A F;refine zd ?_;intro A F;refine wpList_nil (hK18 _ _ ?_);refine gx_region ?_;refine zd ?_;intro A F;refine hz_do F rfl (ex_nil rfl (F.e rfl)) ?_;intro A F;refine zd ?_;intro A F;refine zs [_,_] (#[(.int .i64 v),(.int .i64 m),(.bool false),(.slice ha hl.length hc0),(.int .i64 er)]) ?_;intro W H9 hk;replace hI:=og_far hI (H.b.at_ (j:=2) rfl).1 (show 147≠86 by decide) hk;replace K8:=K8.then hk (fun i9 hi9 e9=>e9);replace hX:=fun (x9:It) (hx9:x9∈L2)=>og_far (hX x9 hx9) (H.b.at_ (j:=2) rfl).1 (ne9 rfl) hk
   clear H hk;have H:=H9;clear H9;refine wpList_nil ?_;exact hJ12 ((n - 1)) _ _ (by omega) ⟨L2,a9,c9,a5,c5,(l.drop x.b.length),false,(((((((((((((((((F.nil.cons (F.g 21 _ rfl)).cons (F.g 20 _ rfl)).cons (F.g 19 _ rfl)).cons (F.g 18 _ rfl)).cons (F.g 17 _ rfl)).cons (F.g 16 _ rfl)).cons (F.g 14 _ rfl)).cons (F.g 13 _ rfl)).cons (F.g 12 _ rfl)).cons (F.g 11 _ rfl)).cons (F.g 8 _ rfl)).cons (gx_is (F.g 7 _ rfl) (by rfl))).cons (F.g 6 _ rfl)).cons (F.g 5 _ rfl)).cons (F.g 4 _ rfl)).cons (F.g 1 _ rfl)).cons (F.g 0 _ rfl)),H.tl.tl,hI,(by rw[hL2];exact hr9.1),hr9.2.1,(by rw[hL2,List.length_append,List.length_singleton];omega),(by rw[hL2];simp),hrw5 _ hL8,hn5 hLn,hc5,(by rw[hL2];intro h9;simp at h9),hX,K8⟩
  have hb19:decide (nextE v m fs l=0)=false:=decide_eq_false hE
  iterate 3 (refine zd ?_;intro A F)
  refine hz_new (c:=itZ) (t:=86) F H rfl (ex_alloc rfl (al_86 _)) ?_;clear F A;intro it W A hk hN H9 F;clear H;have H:=H9;clear H9;have hN_K8_it:=Nat.le_trans K8.size hN;have hne_hI_it:=og_lt hI hN;replace K8:=K8.then hk (fun _ _ q=>q.elim);replace hX:=fun x9 hx9=>own_keptNo (hX x9 hx9) hk
  replace hI:=og_kept hI hk;clear hk hN;obtain ⟨W9,hr,hB,hk⟩:=gx_storeAgg (P:=Tryz.prog) (S:=86) (c:=itZ) _ (H.b.at_ (j:=0) rfl).1 (gs_86 _) rfl (by simp[itZ,zeroPk,Value.oneCell']);replace hI:=og_new hI hne_hI_it hk;replace K8:=K8.then hk (fun i9 hi9 e9=>by have e9:i9=it:=e9;have:=hN_K8_it;omega);replace hX:=fun (x9:It) (hx9:x9∈L)=>og_far (hX x9 hx9) (H.b.at_ (j:=0) rfl).1 (ne9 rfl) hk
  refine hz_st (ex_store rfl (F.e rfl) (F.e rfl) hr) ?_;clear hr;replace H:Hp _ _ [_,_]:=Hp.turn [] H hk hB;clear hk hB;refine zd ?_;intro A F;refine wpList_nil (hK13 _ _ ?_);refine wp_seq_k (fun K20 hK20=>gx_region ?_);refine zd ?_;intro A F;refine wpList_nil (hK20 _ _ ?_);refine wp_block ?_;refine wp_seq_k (fun K21 hK21=>gx_region ?_);refine zb (rn_eql) ?_;intro A F;replace F:=F.hd (congrArg Value.bool hb19);refine zd ?_;intro A F;refine wpList_nil (hK21 _ _ ?_);refine wp_cond_false (F.e rfl) ?_;refine wp_seq_k (fun K22 hK22=>gx_region ?_);refine zb (rn_eql) ?_;intro A F;refine zd ?_;intro A F;refine wpList_nil (hK22 _ _ ?_);refine zc (fun hb23=>?_) (fun hb23=>?_)
  ·skip
   refine wp_exit ?_;exact hK11 _ _ ⟨L,ia,ic,la,lc,l,fs,er,(((((((((((((((((F.nil.cons (F.g 21 _ rfl)).cons (F.g 20 _ rfl)).cons (F.g 19 _ rfl)).cons (F.g 18 _ rfl)).cons (F.g 17 _ rfl)).cons (F.g 16 _ rfl)).cons (F.g 14 _ rfl)).cons (F.g 13 _ rfl)).cons (F.g 12 _ rfl)).cons (F.g 11 _ rfl)).cons (F.g 8 _ rfl)).cons (F.g 7 _ rfl)).cons (F.g 6 _ rfl)).cons (F.g 5 _ rfl)).cons (F.g 4 _ rfl)).cons (F.g 1 _ rfl)).cons (F.g 0 _ rfl)),H.tl,hI,(by rw[hfg,feedG_wait n (of_decide_eq_true hb23),List.append_nil,her]),hfs,(fun _=>⟨hL8,hLn,hLc⟩),(fun h9 _=>hLe h9),(fun h9=>absurd her h9),hX,K8⟩
  refine wp_seq_k (fun K24 hK24=>gx_region ?_)
  iterate 2 (refine zd ?_;intro A F)
  refine hz_do F rfl (ex_nil rfl (F.e rfl)) ?_;intro A F;refine zd ?_;intro A F;refine zs [_] (#[(.int .i64 v),(.int .i64 m),(.bool fs),(.slice ha hl.length hc0),(.int .i64 (nextE v m fs l))]) ?_;intro W H9 hk;replace hI:=og_far hI (H.b.at_ (j:=1) rfl).1 (show 147≠86 by decide) hk;replace K8:=K8.then hk (fun i9 hi9 e9=>e9);replace hX:=fun (x9:It) (hx9:x9∈L)=>og_far (hX x9 hx9) (H.b.at_ (j:=1) rfl).1 (ne9 rfl) hk
  clear H hk;have H:=H9;clear H9;refine wpList_nil (hK24 _ _ ?_);refine wp_seq_k (fun K25 hK25=>gx_region ?_);refine zd ?_;intro A F;refine wpList_nil (hK25 _ _ ?_);refine wp_exit ?_;exact hK11 _ _ ⟨L,ia,ic,none,0,[],fs,(nextE v m fs l),(((((((((((((((((F.nil.cons (F.g 21 _ rfl)).cons (F.g 20 _ rfl)).cons (F.g 19 _ rfl)).cons (F.g 18 _ rfl)).cons (F.g 17 _ rfl)).cons (F.g 16 _ rfl)).cons (F.g 14 _ rfl)).cons (F.g 13 _ rfl)).cons (F.g 12 _ rfl)).cons (F.g 11 _ rfl)).cons (F.g 8 _ rfl)).cons (F.g 7 _ rfl)).cons (F.g 6 _ rfl)).cons (F.g 5 _ rfl)).cons (F.g 4 _ rfl)).cons (F.g 1 _ rfl)).cons (F.g 0 _ rfl)),H.tl,hI,(by rw[hfg,feedG_bad hE (of_decide_eq_false hb23) hnn,List.append_nil]),hfs,(fun h9=>absurd h9 hE),(fun _ h9=>absurd h9 hE),(fun _=>⟨rfl,rfl,rfl⟩),hX,K8⟩
 clear F H;obtain ⟨L,ia,ic,la,lc,lf,fs,e9,F,H,hI,hG,hfs,hLw,hLe,hLb,hX,K8⟩:=hM;have hRl:=rl_fin (fun h0=>⟨row_nobyte (hLw h0).1 K8 hnb,(hLw h0).2.1⟩) hLb;have hfl:lf.length≤100000:=by have h9:=feedG_len v m l0.length fst l0;rw[hG]at h9;have h9:lf.length≤l0.length:=h9;omega
 refine hz_cut (fun A W=>∃ la2:Option Addr,∃ lc2:Nat,Fr A 63 [(0,(.pointer (some ⟨f,0,none⟩))),(1,(.slice a bs.length c)),(4,(.slice none 0 0)),(5,(.int .i64 0)),(6,(.int .i64 er)),(7,(.slice ia L.length ic)),(8,(.slice la2 lf.length lc2)),(11,(.pointer (some ⟨f,0,none⟩))),(12,(.int .i64 er)),(13,(.int .i64 er)),(14,(.bool (!decide (er=0)))),(16,(.pointer (some ⟨f,0,none⟩))),(17,(.pointer (some ⟨f,0,none⟩))),(18,(.pointer (some ⟨f,3,none⟩))),(19,(.slice ha hl.length hc0)),(20,(.slice a bs.length c)),(21,(.slice a8 l0.length c8))]∧Hp w0 W [⟨f,147,#[(.int .i64 v),(.int .i64 m),(.bool fs),(.slice ha hl.length hc0),(.int .i64 e9)]⟩]∧W.ownsRow w8.heap.size 86 26 (.slice ia L.length ic) L.length ((IC L))∧(W.ownsRow Bh 5 1 (.slice la2 lf.length lc2) lf.length (B8 lf))∧(∀ x∈L,W.ownsRow w8.heap.size 5 1 (.slice x.a x.b.length x.c) x.b.length (B8 x.b))∧(Kept (One f) w8 W)) (fun A W hM=>?_) (fun K26 hK26=>?_)
 rotate_left
 ·skip
  refine wp_seq_k (fun K27 hK27=>gx_region ?_);refine zd ?_;intro A F;refine hz_do F rfl (ex_len rfl (gx_l1 (F.e rfl) gx_l0) (rn_lens Tryz.underlying69)) ?_;intro A F;refine zb (rn_gtrN (i:=L.length) (j:=0)) ?_;intro A F;refine wpList_nil (hK27 _ _ ?_);refine zc (fun hb28=>?_) (fun hb28=>?_)
  ·skip
   refine gx_region ?_;refine zd ?_;intro A F;have hs8:=K8.size;refine hz_call (R:=fun vv ww=>∃ a1 c1,vv=.slice a1 lf.length c1∧ww.ownsRow Bh 5 1 (.slice a1 lf.length c1) lf.length (B8 lf)) F H rfl (ex_call rfl rfl (gx_l1 (F.e rfl) gx_l0) fn_91) ((bclone_any la lc lf _ hRl.1 hRl.2 (by omega)).mono fun e9 ww ⟨a9,c9,h91,h92,h93⟩=>⟨_,h91,⟨a9,c9,rfl,og_base h92 (by omega)⟩,h93⟩) ?_;clear F H A;intro vv W A hR hk H F;obtain ⟨ac,cc,rfl,hC9⟩:=hR;replace K8:=K8.then hk (fun _ _ q=>q.elim);replace hX:=fun x9 hx9=>own_keptNo (hX x9 hx9) hk
   replace hI:=og_kept hI hk;clear hk;refine zd ?_;intro A F;refine wpList_nil ?_;exact hK26 _ _ ⟨ac,cc,(((((((((((((((((F.nil.cons (F.g 21 _ rfl)).cons (F.g 20 _ rfl)).cons (F.g 19 _ rfl)).cons (F.g 18 _ rfl)).cons (F.g 17 _ rfl)).cons (F.g 16 _ rfl)).cons (F.g 14 _ rfl)).cons (F.g 13 _ rfl)).cons (F.g 12 _ rfl)).cons (F.g 11 _ rfl)).cons (F.g 8 _ rfl)).cons (F.g 7 _ rfl)).cons (F.g 6 _ rfl)).cons (F.g 5 _ rfl)).cons (F.g 4 _ rfl)).cons (F.g 1 _ rfl)).cons (F.g 0 _ rfl)),H,hI,hC9,hX,K8⟩
  refine wp_skip ?_;exact hK26 _ _ ⟨la,lc,(((((((((((((((((F.nil.cons (F.g 21 _ rfl)).cons (F.g 20 _ rfl)).cons (F.g 19 _ rfl)).cons (F.g 18 _ rfl)).cons (F.g 17 _ rfl)).cons (F.g 16 _ rfl)).cons (F.g 14 _ rfl)).cons (F.g 13 _ rfl)).cons (F.g 12 _ rfl)).cons (F.g 11 _ rfl)).cons (F.g 8 _ rfl)).cons (F.g 7 _ rfl)).cons (F.g 6 _ rfl)).cons (F.g 5 _ rfl)).cons (F.g 4 _ rfl)).cons (F.g 1 _ rfl)).cons (F.g 0 _ rfl)),H,hI,held_fin (fun h0=>hLe (by have h9:=of_decide_eq_false hb28;exact List.length_eq_zero_iff.1 (by omega)) h0) hLb (og_far hO8 hf8 (ne9 rfl) K8),hX,K8⟩
 clear F H hI;obtain ⟨la2,lc2,F,H,hI,hO9,hX,K8⟩:=hM;refine wp_seq_k (fun K30 hK30=>gx_region ?_)
 iterate 2 (refine zd ?_;intro A F)
 refine hz_do F rfl (ex_nil rfl (F.e rfl)) ?_;intro A F;refine zd ?_;intro A F;refine zs [] (#[(.int .i64 v),(.int .i64 m),(.bool fs),(.slice la2 lf.length lc2),(.int .i64 e9)]) ?_;intro W H9 hk;replace hI:=og_far hI (H.b.at_ (j:=0) rfl).1 (show 147≠86 by decide) hk;replace K8:=K8.then hk (fun i9 hi9 e9=>e9);replace hX:=fun (x9:It) (hx9:x9∈L)=>og_far (hX x9 hx9) (H.b.at_ (j:=0) rfl).1 (ne9 rfl) hk
 replace hO9:=og_far hO9 (H.b.at_ (j:=0) rfl).1 (ne9 rfl) hk;clear H hk;have H:=H9;clear H9;refine wpList_nil (hK30 _ _ ?_);refine wp_seq_k (fun K31 hK31=>?_);refine wp_region_held_drew (S:=fun wx=>Hp _ wx _) (by kernel_rfl) H.drew (fun H9=>?_);clear H;have H:=H9;clear H9;replace K8:=K8.then (Kept.refl No _).drew (fun _ _ q=>q.elim);replace hX:=fun x9 hx9=>own_keptNo (hX x9 hx9) (Kept.refl No _).drew
 replace hO9:=own_keptNo hO9 (Kept.refl No _).drew;replace hI:=og_kept hI (Kept.refl No _).drew;generalize World.drew _=W at *;refine td 0 ?_;intro A F;refine td 1 ?_;intro A F;refine hzh_do (i:=2) F rfl rfl (by kernel_rfl) (fun _ _ _ h=>h) (H) (fun wz H=>(ex_nil rfl (F.e rfl))) ?_;intro A F;refine td 3 ?_;intro A F;refine td 4 ?_;intro A F;refine td 5 ?_;intro A F;refine td 6 ?_;intro A F;refine wpAnyH_done (by kernel_rfl) ?_ _;refine hK31 _ _ ?_;refine gx_ret ?_;refine (show bodyPost _ Tryz.f34 RR Exit.ret _ _ from zr2 ?_);exact (by have hE:=feedS_ok (v:=v) (m:=m) (S:=⟨fst,hl,er⟩) (b:=bs) (fun q=>q her) hl0 hG;have h1:=hfd.symm.trans hE;have e1:I=L.map It.pb:=congrArg Prod.fst h1;have e2:=congrArg Prod.snd h1;have e3:fst'=fs:=(congrArg Fs.fst e2).trans hfs.symm;have e4:h'=lf:=congrArg Fs.h e2;have e5:e'=e9:=congrArg Fs.e e2;exact ⟨_,(L,(ia,ic),(la2,lc2)),rfl,by rw[e1,e3,e4,e5];exact ⟨rfl,rfl,og_base hI hw08,fun y hy=>og_base (hX y hy) hw08,(H.b.at_ (j:=0) rfl).1,hO9,hk08.trans (K8.mono (fun i _ q=>.inl q))⟩⟩)
theorem feed_nil (a:Option Addr) (n c:Nat) (w:World):Calls Tryz.prog 34 #[.pointer none,.slice a n c] w fun e w'=>e=.returned (.tuple #[.slice none 0 0,.int .i64 1])∧Kept No w w':=by
 let RR:Ending→World→Prop:=fun e w'=>e=.returned (.tuple #[.slice none 0 0,.int .i64 1])∧Kept No w w'
 go_enter Tryz.func34,Tryz.ntmps34
 generalize hA:({ tmps:=_,defers:=[] }:Act)=A;have F:Fr A 63 [(1,(.slice a n c)),(0,(.pointer none))]:=by rw[← hA];exact (Fr.cons (i:=1) (v:=(.slice a n c)) (Fr.cons (i:=0) (v:=(.pointer none)) (Fr.nil0 rfl rfl) rfl) rfl)
 clear hA;have H:=Hp.start w;refine wp_seq_k (fun K1 hK1=>gx_region ?_)
 iterate 2 (refine zd ?_;intro A F)
 refine wpList_nil (hK1 _ _ ?_);refine wp_scope_straight ?_;refine wp_seq_k (fun K2 hK2=>?_);refine wp_seq_k (fun K3 hK3=>gx_region ?_);refine zd ?_;intro A F;refine hz_callk F H rfl (ex_call rfl rfl (gx_l1 (F.e rfl) gx_l0) fn_39) ((fnil_any _).1) ?_;clear F H A;intro W A hk H F;clear hk;refine zd ?_;intro A F;refine wpList_nil (hK3 _ _ ?_);refine wp_seq_k (fun K5 hK5=>gx_region ?_);refine zd ?_;intro A F;refine zb (rn_neq) ?_;intro A F;refine wpList_nil (hK5 _ _ ?_);refine wp_cond_true (F.e rfl) ?_;refine wp_seq_k (fun K6 hK6=>gx_region ?_)
 iterate 3 (refine zd ?_;intro A F)
 refine wpList_nil (hK6 _ _ ?_);refine gx_ret ?_;refine (show bodyPost _ Tryz.f34 RR Exit.ret _ _ from zr2 ?_);exact ⟨rfl,H.k⟩
theorem Hps.lt9 {w0 W:World}:∀ {M:List Bk},Hps w0 W M→∀ y∈M,y.b < W.heap.size
 | [],_=>fun y hy=>by cases hy
 | x :: l,h=>fun y hy=>by
  rcases List.mem_cons.1 hy with rfl|hy
  ·exact h.1.lt
  ·exact Hps.lt9 h.2.2.2 y hy
theorem Hp.add {w0 W W':World} {M:List Bk} {b:Nat} {t:TypeId} {c:Array Value} (H:Hp w0 W M) (hk:Kept No W W') (hb:Blk W' b t c) (hlo:W.heap.size≤b):Hp w0 W' (⟨b,t,c⟩ :: M) :=
 ⟨(H.kept hk).k,hb,Nat.le_trans H.size hlo,fun y hy=>Nat.lt_of_lt_of_le (H.b.lt9 y hy) hlo,(H.kept hk).b⟩
structure NewX (w:World) (v m:Int) (fst:Bool) (b:Nat) (u:Value) (W:World):Prop where
 u:u=.tuple #[.pointer (some ⟨b,0,none⟩),.int .i64 0]
 lo:w.heap.size≤b
 fb:Blk W b 147 #[.int .i64 v,.int .i64 m,.bool fst,.slice none 0 0,.int .i64 0]
 k:Kept No w W
theorem fnew_X {v m:Int} (h:NewOk v m) (fst:Bool) (w:World):Calls Tryz.prog 32 #[.int .i64 v,.int .i64 m,.bool fst] w fun e w'=>∃ u,∃ b,e=.returned u∧NewX w v m fst b u w' :=
 (fnew_any v m fst w).mono fun e w' q=>by
  rcases q with ⟨h2,_⟩|⟨_,u,h1,⟨b,h2,h3,h4⟩,h5⟩
  ·exact absurd h h2
  ·exact ⟨u,b,h1,h2,h3,h4,h5⟩
theorem fnew_no {v m:Int} (h:¬ NewOk v m) (fst:Bool) (w:World):Calls Tryz.prog 32 #[.int .i64 v,.int .i64 m,.bool fst] w fun e w'=>e=.returned (.tuple #[.pointer none,.int .i64 1])∧Kept No w w' :=
 (fnew_any v m fst w).mono fun e w' q=>by
  rcases q with ⟨_,h2⟩|⟨h2,_⟩
  ·exact h2
  ·exact absurd h2 h
section
variable {W W':World} {f b n Bh:Nat} {ty:TypeId} {c cf:Array Value} {hv:Value} {xs:List Value}
theorem kT9 (hk:Kept (T9 f hv) W W') (hf:Blk W f 147 cf) (h1:ty≠147) (hO:W.ownsRow Bh 5 1 hv n xs) (h2:ty≠5):b=b∧(Blk W b ty c→Blk W' b ty c):=⟨rfl,fun hb=>hb.kept hk (fun e=>by
 rcases e with e|e
 ·subst e;exact h1 (blk_one hb hf)
 ·obtain ⟨cur,hc⟩:=own_typed hO e
  exact h2 (blk_one hb hc))⟩
theorem kT9f (hk:Kept (T9 f hv) W W') (hne:b≠f) (hO:W.ownsRow Bh 5 1 hv n xs) (h2:ty≠5):b=b∧(Blk W b ty c→Blk W' b ty c):=⟨rfl,fun hb=>hb.kept hk (fun e=>by
 rcases e with e|e
 ·exact hne e
 ·obtain ⟨cur,hc⟩:=own_typed hO e
  exact h2 (blk_one hb hc))⟩
theorem geT9 {B0:Nat} (hf:B0≤f) (hB:B0≤Bh) (hO:W.ownsRow Bh 5 1 hv n xs):∀ i,T9 f hv i→B0≤i:=fun i e=>by
 rcases e with e|e
 ·omega
 ·exact Nat.le_trans hB (hO.lt i e).1
end
theorem rn_pn (w:World) (a:Addr) (x y:Operand):(do eqGuard .eql 65 x y (.pointer (some a)) (.pointer none);binOp .eql 65 (.pointer (some a)) (.pointer none):Sem Value).run Tryz.prog w=.ok (.bool false) w:=by go_simp
theorem rn_pnn (w:World) (a:Addr) (x y:Operand):(do eqGuard .neq 65 x y (.pointer (some a)) (.pointer none);binOp .neq 65 (.pointer (some a)) (.pointer none):Sem Value).run Tryz.prog w=.ok (.bool true) w:=by go_simp
theorem rn_nnn (w:World) (x y:Operand):(do eqGuard .neq 65 x y (.pointer none) (.pointer none);binOp .neq 65 (.pointer none) (.pointer none):Sem Value).run Tryz.prog w=.ok (.bool false) w:=by go_simp
theorem map_one {L:List It} {p:Pk × List UInt8} (h:L.map It.pb=[p]):∃ x,L=[x]∧x.pb=p:=by
 cases L with
 | nil=>cases h
 | cons x L =>
  cases L with
  | nil=>exact ⟨x,rfl,by simpa using h⟩
  | cons y L=>simp at h
theorem row_some {W:World} {a:Option Addr} {xs:List Value} (h:Row W a xs) (hne:xs≠[]):∃ b off,a=some ⟨b,off,none⟩∧∀ j u,xs[j]?=some u→W.cell? ⟨b,off+j,none⟩=some u:=by
 rcases h with h|⟨b,off,ha,_,hc⟩
 ·exact absurd h hne
 ·exact ⟨b,off,ha,hc⟩
theorem fd1:feedS 4 100 ⟨false,[],0⟩ [64]=([],⟨false,[64],0⟩):=by kernel_rfl
theorem fd2:feedS 4 100 ⟨false,[64],0⟩ [2,0]=([],⟨false,[64,2,0],0⟩):=by kernel_rfl
theorem fd3:feedS 4 100 ⟨false,[64,2,0],0⟩ [7,192]=([(dq7,[64,2,0,7])],⟨false,[192],0⟩):=by kernel_rfl
theorem IC_ne (x:It):IC [x]≠[]:=fun h=>by have h8:(IC [x]).length=26:=rfl;rw[h]at h8;cases h8
set_option maxHeartbeats 8000000 in
theorem told10_any (w:World) (hT:Tabs w):Calls Tryz.prog 33 #[] w fun e w'=>e=.returned (.bool true)∧Kept No w w':=by
 let RR:Ending→World→Prop:=fun e w'=>e=.returned (.bool true)∧Kept No w w'
 go_enter Tryz.func33,Tryz.ntmps33
 generalize hA:({ tmps:=_,defers:=[] }:Act)=A;have F:Fr A 86 []:=by rw[← hA];exact (Fr.nil0 rfl rfl)
 clear hA;have H:=Hp.start w;refine wp_seq_k (fun K1 hK1=>gx_region ?_);refine zd ?_;intro A F;refine wpList_nil (hK1 _ _ ?_);refine wp_seq_k (fun K2 hK2=>gx_region ?_);refine hz_callX (fun (b9:Nat)=>[⟨b9,147,#[.int .i64 4,.int .i64 100,.bool false,.slice none 0 0,.int .i64 0]⟩]) (NewX _ 4 100 false) F rfl (ex_call rfl rfl (gx_l1 gx_evc (gx_l1 gx_evc (gx_l1 gx_evc gx_l0))) fn_32) (fnew_X (show NewOk 4 100 from ⟨.inl rfl,by decide⟩) false _) (fun b9 _ _ h=>Hp.add H h.k h.fb h.lo) ?_;clear F H A;intro f1 vv W A hR H F;obtain ⟨rfl,hlo1,-,hk9⟩:=hR;clear hk9;obtain ⟨Bf1,hBf1⟩:∃ n,n=W.heap.size:=⟨_,rfl⟩
 have hBh1:w.heap.size≤Bf1:=by rw[hBf1];exact H.size
 have hBw1:Bf1≤W.heap.size:=by rw[hBf1];exact Nat.le_refl _
 have hO1:W.ownsRow Bf1 5 1 (.slice none ([]:List UInt8).length 0) ([]:List UInt8).length (B8 []):=own_nil _
 iterate 5 (refine zd ?_;intro A F)
 refine wpList_nil (hK2 _ _ ?_);refine wp_seq_k (fun K3 hK3=>?_);refine wp_seq_k (fun K4 hK4=>gx_region ?_);refine zd ?_;intro A F;refine hz_do (v:=(.bool false)) F rfl (ex_bin rfl (F.e rfl) gx_evc (rn_pn _ _ _ _)) ?_;intro A F;refine zd ?_;intro A F;refine hz_do1 F rfl (hw_f (X:=false) F rfl rfl rfl) (ex_move rfl (F.e rfl)) ?_;intro A F;refine hz_do1 F rfl (hw_f (X:=false) F rfl rfl rfl) (ex_bin rfl (F.e rfl) gx_evc (rn_neq)) ?_;intro A F;refine hz_do F rfl (ex_pickF rfl (F.e rfl) (F.e rfl)) ?_;intro A F;refine wpList_nil (hK4 _ _ ?_);refine wp_cond_false (F.e rfl) ?_;refine wp_skip (hK3 _ _ ?_);refine wp_seq_k (fun K5 hK5=>gx_region ?_);refine zd ?_;intro A F;obtain ⟨bM,W1,W9,hbd,hcv,hrM,hkM⟩:=conv_const9 H #[(0,.int .u8 64)] #[.int .u8 64] [64] 1 (fun w=>by kernel_rfl) (by kernel_rfl);refine hz_do (v:=.slice (some ⟨bM,0,none⟩) 1 1) F rfl (ex_buildSlice rfl (gx_p1 gx_evc gx_p0) hbd) ?_;intro A F;refine hz_do (v:=(.slice ((some ⟨bM,0,none⟩)) 1 1)) F rfl (ex_conv rfl (F.e rfl) hcv) ?_;intro A F;replace hO1:=own_keptNo hO1 hkM;replace hBw1:=Nat.le_trans hBw1 hkM.size;replace H:=H.kept hkM;clear hcv hkM hbd;generalize W9=W at *;refine hz_callX (fun (x:List It × (Option Addr × Nat) × (Option Addr × Nat))=>[⟨f1,147,#[.int .i64 4,.int .i64 100,.bool false,.slice x.2.2.1 (([64]:List UInt8)).length x.2.2.2,.int .i64 0]⟩]) (FeedR _ f1 4 100 Bf1 (.slice none (([]:List UInt8)).length 0) [] false (([64]:List UInt8)) 0) F rfl (ex_call rfl rfl (gx_l1 (F.e rfl) (gx_l1 (F.e rfl) gx_l0)) fn_34) (feed_any w _ f1 4 100 false 0 none 0 (([]:List UInt8)) Bf1 hBh1 hBw1 ⟨H.k,(H.b.at_ (j:=0) rfl).1,(H.b.at_ (j:=0) rfl).2,by simp,trivial⟩ hO1 ((some ⟨bM,0,none⟩)) 1 [64] hrM ((by intro h9;cases h9)) ((by decide)) (hT.kept (Kept.refl _ _)) [] false (([64]:List UInt8)) 0 fd1) (fun x9 _ _ h=>Hp.re H h.k (geT9 (H.b.at_ (j:=0) rfl).2 hBh1 hO1) ⟨⟨rfl,fun _=>h.fb⟩,trivial⟩) ?_;clear F H A;intro x9 vv W A hR H F;obtain ⟨L6,⟨ia6,ic6⟩,ha6,hc6⟩:=x9;try dsimp only at H
 obtain ⟨rfl,hLm6,hI6,hBy6,-,hO9,hk9⟩:=hR;try dsimp only at hLm6 hI6 hBy6 hO9 F
 replace hBw1:=Nat.le_trans hBw1 hk9.size;clear hO1;have hO1:=hO9;clear hO9 hk9;have hl9_6:L6.length=0:=by rw[pb_len hLm6];rfl
 iterate 5 (refine zd ?_;intro A F)
 refine wpList_nil (hK5 _ _ ?_);refine wp_seq_k (fun K7 hK7=>gx_region ?_);refine zd ?_;intro A F;obtain ⟨bM,W1,W9,hbd,hcv,hrM,hkM⟩:=conv_const9 H #[(0,.int .u8 2),(1,.int .u8 0)] #[.int .u8 2,.int .u8 0] [2,0] 2 (fun w=>by kernel_rfl) (by kernel_rfl);refine hz_do (v:=.slice (some ⟨bM,0,none⟩) 2 2) F rfl (ex_buildSlice rfl (gx_p1 gx_evc (gx_p1 gx_evc gx_p0)) hbd) ?_;intro A F;refine hz_do (v:=(.slice ((some ⟨bM,0,none⟩)) 2 2)) F rfl (ex_conv rfl (F.e rfl) hcv) ?_;intro A F;replace hO1:=own_keptNo hO1 hkM;replace hBw1:=Nat.le_trans hBw1 hkM.size;replace H:=H.kept hkM;clear hcv hkM hbd;generalize W9=W at *;refine hz_callX (fun (x:List It × (Option Addr × Nat) × (Option Addr × Nat))=>[⟨f1,147,#[.int .i64 4,.int .i64 100,.bool false,.slice x.2.2.1 (([64,2,0]:List UInt8)).length x.2.2.2,.int .i64 0]⟩]) (FeedR _ f1 4 100 Bf1 (.slice ha6 (([64]:List UInt8)).length hc6) [] false (([64,2,0]:List UInt8)) 0) F rfl (ex_call rfl rfl (gx_l1 (F.e rfl) (gx_l1 (F.e rfl) gx_l0)) fn_34) (feed_any w _ f1 4 100 false 0 ha6 hc6 (([64]:List UInt8)) Bf1 hBh1 hBw1 ⟨H.k,(H.b.at_ (j:=0) rfl).1,(H.b.at_ (j:=0) rfl).2,by simp,trivial⟩ hO1 ((some ⟨bM,0,none⟩)) 2 ([2,0]) hrM ((by intro h9;cases h9)) ((by decide)) (hT.kept (Kept.refl _ _)) [] false (([64,2,0]:List UInt8)) 0 fd2) (fun x9 _ _ h=>Hp.re H h.k (geT9 (H.b.at_ (j:=0) rfl).2 hBh1 hO1) ⟨⟨rfl,fun _=>h.fb⟩,trivial⟩) ?_;clear F H A;intro x9 vv W A hR H F;obtain ⟨L8,⟨ia8,ic8⟩,ha8,hc8⟩:=x9;try dsimp only at H
 obtain ⟨rfl,hLm8,hI8,hBy8,-,hO9,hk9⟩:=hR;try dsimp only at hLm8 hI8 hBy8 hO9 F
 replace hBw1:=Nat.le_trans hBw1 hk9.size;clear hO1;have hO1:=hO9;clear hO9 hk9;have hl9_8:L8.length=0:=by rw[pb_len hLm8];rfl
 iterate 5 (refine zd ?_;intro A F)
 refine wpList_nil (hK7 _ _ ?_);refine wp_seq_k (fun K9 hK9=>gx_region ?_);refine zd ?_;intro A F;obtain ⟨bM,W1,W9,hbd,hcv,hrM,hkM⟩:=conv_const9 H #[(0,.int .u8 7),(1,.int .u8 192)] #[.int .u8 7,.int .u8 192] [7,192] 2 (fun w=>by kernel_rfl) (by kernel_rfl);refine hz_do (v:=.slice (some ⟨bM,0,none⟩) 2 2) F rfl (ex_buildSlice rfl (gx_p1 gx_evc (gx_p1 gx_evc gx_p0)) hbd) ?_;intro A F;refine hz_do (v:=(.slice ((some ⟨bM,0,none⟩)) 2 2)) F rfl (ex_conv rfl (F.e rfl) hcv) ?_;intro A F;replace hO1:=own_keptNo hO1 hkM;replace hBw1:=Nat.le_trans hBw1 hkM.size;replace H:=H.kept hkM;clear hcv hkM hbd;generalize W9=W at *;refine hz_callX (fun (x:List It × (Option Addr × Nat) × (Option Addr × Nat))=>[⟨f1,147,#[.int .i64 4,.int .i64 100,.bool false,.slice x.2.2.1 (([192]:List UInt8)).length x.2.2.2,.int .i64 0]⟩]) (FeedR _ f1 4 100 Bf1 (.slice ha8 (([64,2,0]:List UInt8)).length hc8) ([(dq7,[64,2,0,7])]) false (([192]:List UInt8)) 0) F rfl (ex_call rfl rfl (gx_l1 (F.e rfl) (gx_l1 (F.e rfl) gx_l0)) fn_34) (feed_any w _ f1 4 100 false 0 ha8 hc8 (([64,2,0]:List UInt8)) Bf1 hBh1 hBw1 ⟨H.k,(H.b.at_ (j:=0) rfl).1,(H.b.at_ (j:=0) rfl).2,by simp,trivial⟩ hO1 ((some ⟨bM,0,none⟩)) 2 ([7,192]) hrM ((by intro h9;cases h9)) ((by decide)) (hT.kept (Kept.refl _ _)) ([(dq7,[64,2,0,7])]) false (([192]:List UInt8)) 0 fd3) (fun x9 _ _ h=>Hp.re H h.k (geT9 (H.b.at_ (j:=0) rfl).2 hBh1 hO1) ⟨⟨rfl,fun _=>h.fb⟩,trivial⟩) ?_;clear F H A;intro x9 vv W A hR H F;obtain ⟨L10,⟨ia10,ic10⟩,ha10,hc10⟩:=x9;try dsimp only at H
 obtain ⟨rfl,hLm10,hI10,hBy10,-,hO9,hk9⟩:=hR;try dsimp only at hLm10 hI10 hBy10 hO9 F
 replace hBw1:=Nat.le_trans hBw1 hk9.size;clear hO1;have hO1:=hO9;clear hO9 hk9;obtain ⟨x3,rfl,hx3⟩:=map_one hLm10;have hxp3:x3.p=dq7:=congrArg Prod.fst hx3;have hxb3:x3.b=[64,2,0,7]:=congrArg Prod.snd hx3;obtain ⟨b3,o3,rfl,hc3⟩:=row_some (own_row hI10).1 (IC_ne x3);have hy3:=hBy10 x3 (.head _)
 iterate 5 (refine zd ?_;intro A F)
 refine wpList_nil (hK9 _ _ ?_);refine wp_seq_k (fun K11 hK11=>gx_region ?_);refine zd ?_;intro A F;refine hz_do F rfl (ex_len rfl (gx_l1 (F.e rfl) gx_l0) (rn_lens Tryz.underlying69)) ?_;intro A F;refine zb (rn_eqlN (i:=L6.length) (j:=0)) ?_;intro A F;have hr12:(decide (L6.length=0))=true:=(decide_eq_true hl9_6)
 replace F:=F.hd (congrArg Value.bool hr12);refine zd ?_;intro A F;refine hz_do1 F rfl (hw_t F rfl rfl rfl) (ex_move rfl (F.e rfl)) ?_;intro A F;refine hz_do1 F rfl (hw_t F rfl rfl rfl) (ex_bin rfl (F.e rfl) gx_evc (rn_eql)) ?_;intro A F;refine hz_do F rfl (ex_pickT rfl (F.e rfl) (F.e rfl)) ?_;intro A F;refine zd ?_;intro A F;refine hz_do1 F rfl (hw_t F rfl rfl rfl) (ex_move rfl (F.e rfl)) ?_;intro A F;refine hz_do1 F rfl (hw_t F rfl rfl rfl) (ex_len rfl (gx_l1 (F.e rfl) gx_l0) (rn_lens Tryz.underlying69)) ?_;intro A F;refine hz_do1 F rfl (hw_t F rfl rfl rfl) (ex_bin rfl (F.e rfl) gx_evc (rn_eqlN (i:=L8.length) (j:=0))) ?_;intro A F;have hr13:(decide (L8.length=0))=true:=(decide_eq_true hl9_8)
 replace F:=F.hd (congrArg Value.bool hr13);refine hz_do F rfl (ex_pickT rfl (F.e rfl) (F.e rfl)) ?_;intro A F;refine zd ?_;intro A F;refine hz_do1 F rfl (hw_t F rfl rfl rfl) (ex_move rfl (F.e rfl)) ?_;intro A F;refine hz_do1 F rfl (hw_t F rfl rfl rfl) (ex_bin rfl (F.e rfl) gx_evc (rn_eql)) ?_;intro A F;refine hz_do F rfl (ex_pickT rfl (F.e rfl) (F.e rfl)) ?_;intro A F;refine zd ?_;intro A F;refine hz_do1 F rfl (hw_t F rfl rfl rfl) (ex_move rfl (F.e rfl)) ?_;intro A F;refine hz_do1 F rfl (hw_t F rfl rfl rfl) (ex_len rfl (gx_l1 (F.e rfl) gx_l0) (rn_lens Tryz.underlying69)) ?_;intro A F;refine hz_do1 F rfl (hw_t F rfl rfl rfl) (ex_bin rfl (F.e rfl) gx_evc (rn_eql)) ?_;intro A F;refine hz_do F rfl (ex_pickT rfl (F.e rfl) (F.e rfl)) ?_;intro A F;refine zd ?_;intro A F;refine hz_do1 F rfl (hw_t F rfl rfl rfl) (ex_move rfl (F.e rfl)) ?_;intro A F;refine hz_do1 F rfl (hw_t F rfl rfl rfl) (ex_bin rfl (F.e rfl) gx_evc (rn_eql)) ?_;intro A F;refine hz_do F rfl (ex_pickT rfl (F.e rfl) (F.e rfl)) ?_;intro A F;refine zd ?_;intro A F;refine hz_do1 F rfl (hw_t F rfl rfl rfl) (ex_move rfl (F.e rfl)) ?_;intro A F;refine hz_do1 (v:=(.pointer (some ⟨b3,o3+0 * 26,none⟩))) F rfl (hw_t F rfl rfl rfl) (ex_idxaddr rfl (F.e rfl) gx_evc (rn_idx Tryz.underlying69 (gs_86 _) (i:=0) (Nat.succ_pos _))) ?_;intro A F;refine hz_do1 (v:=(.pointer (some ⟨b3,o3+0 * 26,none⟩))) F rfl (hw_t F rfl rfl rfl) (ex_faddr rfl (F.e rfl) (fa_86_0 _ _ _)) ?_;intro A F;refine hz_do1 F rfl (hw_t F rfl rfl rfl) (ex_faddr rfl (F.e rfl) (fa_33_4 _ _ _)) ?_;intro A F;refine hz_do1 (v:=(.int .u16 ((x3.p.id:Int)))) F rfl (hw_t F rfl rfl rfl) (ex_load rfl (F.e rfl) (gl_one (ag_22 _) (hc3 4 _ rfl))) ?_;intro A F;refine hz_do1 F rfl (hw_t F rfl rfl rfl) (ex_bin rfl (F.e rfl) gx_evc (rn_eqlN (i:=x3.p.id) (j:=7))) ?_;intro A F;have hr14:(decide (x3.p.id=7))=true:=(by rw[hxp3];decide)
 replace F:=F.hd (congrArg Value.bool hr14);refine hz_do F rfl (ex_pickT rfl (F.e rfl) (F.e rfl)) ?_;intro A F;refine zd ?_;intro A F;refine hz_do1 F rfl (hw_t F rfl rfl rfl) (ex_move rfl (F.e rfl)) ?_;intro A F;refine hz_do1 (v:=(.pointer (some ⟨b3,o3+0 * 26,none⟩))) F rfl (hw_t F rfl rfl rfl) (ex_idxaddr rfl (F.e rfl) gx_evc (rn_idx Tryz.underlying69 (gs_86 _) (i:=0) (Nat.succ_pos _))) ?_;intro A F;refine hz_do1 F rfl (hw_t F rfl rfl rfl) (ex_faddr rfl (F.e rfl) (fa_86_1 _ _ _)) ?_;intro A F;refine hz_do1 (v:=(.slice x3.a x3.b.length x3.c)) F rfl (hw_t F rfl rfl rfl) (ex_load rfl (F.e rfl) (gl_one (ag_25 _) (hc3 25 _ rfl))) ?_;intro A F;refine hz_do1 (v:=(.string ((⟨x3.b.toArray⟩:ByteArray)))) F rfl (hw_t F rfl rfl rfl) (ex_conv rfl (F.e rfl) (str_at (Lib.hid rfl) (own_row hy3).1 x3.c (fun e=>((own_row hy3).2 e).2))) ?_;intro A F;refine hz_do1 F rfl (hw_t F rfl rfl rfl) (ex_bin rfl (F.e rfl) gx_evc (rn_seql)) ?_;intro A F;have hr15:(decide ((⟨x3.b.toArray⟩:ByteArray)=⟨#[64,2,0,7]⟩))=true:=(by rw[hxb3];decide)
 replace F:=F.hd (congrArg Value.bool hr15);refine hz_do F rfl (ex_pickT rfl (F.e rfl) (F.e rfl)) ?_;intro A F;refine zd ?_;intro A F;refine hz_do1 F rfl (hw_t F rfl rfl rfl) (ex_move rfl (F.e rfl)) ?_;intro A F;refine hz_callk1 F H rfl (hw_t F rfl rfl rfl) (ex_call rfl rfl (gx_l1 (F.e rfl) gx_l0) fn_38) (fheld_any (H.b.at_ (j:=0) rfl).1) ?_;clear F H A;intro W A hk H F;replace hO1:=own_keptNo hO1 hk;replace hBw1:=Nat.le_trans hBw1 hk.size;clear hk;refine hz_do1 F rfl (hw_t F rfl rfl rfl) (ex_bin rfl (F.e rfl) gx_evc (rn_eqlN (i:=([192]:List UInt8).length) (j:=1))) ?_;intro A F;have hr17:(decide (([192]:List UInt8).length=1))=true:=(by decide)
 replace F:=F.hd (congrArg Value.bool hr17);refine hz_do F rfl (ex_pickT rfl (F.e rfl) (F.e rfl)) ?_;intro A F;refine zd ?_;intro A F;refine wpList_nil (hK11 _ _ ?_);refine gx_ret ?_;refine (show bodyPost _ Tryz.f33 RR Exit.ret _ _ from zr ?_);exact ⟨by first|rfl|simp,H.k⟩
set_option maxHeartbeats 8000000 in
theorem news_yes (v m:Int) (w:World) (hT:Tabs w) (hok:NewOk v m):Calls Tryz.prog 13 #[.int .i64 v,.int .i64 m] w fun e w'=>e=.returned (.bool true)∧Below w.heap.size w w':=by
 let RR:Ending→World→Prop:=fun e w'=>e=.returned (.bool true)∧Below w.heap.size w w'
 go_enter Tryz.func13,Tryz.ntmps13
 generalize hA:({ tmps:=_,defers:=[] }:Act)=A;have F:Fr A 72 [(1,(.int .i64 m)),(0,(.int .i64 v))]:=by rw[← hA];exact (Fr.cons (i:=1) (v:=(.int .i64 m)) (Fr.cons (i:=0) (v:=(.int .i64 v)) (Fr.nil0 rfl rfl) rfl) rfl)
 clear hA;have H:=Hp.start w;have hX:((decide (v=4)||decide (v=5))&&decide (2≤m))=true:=by unfold NewOk at hok;rw[Bool.and_eq_true,Bool.or_eq_true,decide_eq_true_eq,decide_eq_true_eq,decide_eq_true_eq];exact hok
 refine wp_seq_k (fun K1 hK1=>gx_region ?_);refine zd ?_;intro A F;refine wpList_nil (hK1 _ _ ?_);refine wp_seq_k (fun K2 hK2=>gx_region ?_)
 iterate 2 (refine zd ?_;intro A F)
 refine hz_callX (fun (b9:Nat)=>[⟨b9,147,#[.int .i64 v,.int .i64 m,.bool true,.slice none 0 0,.int .i64 0]⟩]) (NewX _ v m true) F rfl (ex_call rfl rfl (gx_l1 (F.e rfl) (gx_l1 (F.e rfl) (gx_l1 gx_evc gx_l0))) fn_32) (fnew_X hok true _) (fun b9 _ _ h=>Hp.add H h.k h.fb h.lo) ?_;clear F H A;intro f1 vv W A hR H F;obtain ⟨rfl,hlo1,-,hk9⟩:=hR;clear hk9;obtain ⟨Bf1,hBf1⟩:∃ n,n=W.heap.size:=⟨_,rfl⟩
 have hBh1:w.heap.size≤Bf1:=by rw[hBf1];exact H.size
 have hBw1:Bf1≤W.heap.size:=by rw[hBf1];exact Nat.le_refl _
 have hO1:W.ownsRow Bf1 5 1 (.slice none ([]:List UInt8).length 0) ([]:List UInt8).length (B8 []):=own_nil _
 iterate 5 (refine zd ?_;intro A F)
 refine wpList_nil (hK2 _ _ ?_);refine wp_seq_k (fun K3 hK3=>gx_region ?_);refine zd ?_;intro A F;refine zb (rn_eql) ?_;intro A F;refine zd ?_;intro A F;refine zg ?_;intro A F;refine zgb (rn_eql) ?_;intro A F;refine hz_do F rfl (ex_pickO rfl (F.e rfl) (fun hx=>(F.o rfl (gnt hx))) rfl) ?_;intro A F;refine zd ?_;intro A F;refine zg ?_;intro A F;refine zgb (rn_geq) ?_;intro A F;refine hz_do F rfl (ex_pickA rfl (F.e rfl) (fun hx=>(F.o rfl hx)) rfl) ?_;intro A F;have hr4:(((decide (v=4))||(decide (v=5)))&&(decide (2≤m)))=true:=hX;replace F:=F.hd (congrArg Value.bool hr4);refine zd ?_;intro A F;refine wpList_nil (hK3 _ _ ?_);refine wp_seq_k (fun K5 hK5=>gx_region ?_);refine zd ?_;intro A F;refine wpList_nil (hK5 _ _ ?_);refine wp_seq_k (fun K6 hK6=>gx_region ?_);refine zd ?_;intro A F;refine hz_bs (c:=#[.int .u8 1]) (t:=5) (m:=1) F H rfl (ex_buildSlice rfl (gx_p1 gx_evc gx_p0) (by kernel_rfl)) ?_;clear F A;intro b7 W A hk hN H9 F;clear H;have H:=H9;clear H9;replace hO1:=own_keptNo hO1 hk;replace hBw1:=Nat.le_trans hBw1 hk.size;clear hk hN;refine hz_callk F H rfl (ex_call rfl rfl (gx_l1 (F.e rfl) (gx_l1 (F.e rfl) gx_l0)) fn_34) (feed_nil ((some ⟨b7,0,none⟩)) 1 1 _) ?_;clear F H A;intro W A hk H F;replace hO1:=own_keptNo hO1 hk;replace hBw1:=Nat.le_trans hBw1 hk.size;clear hk
 iterate 5 (refine zd ?_;intro A F)
 refine wpList_nil (hK6 _ _ ?_);refine wp_seq_k (fun K9 hK9=>gx_region ?_);refine hz_callk F H rfl (ex_call rfl rfl gx_l0 fn_33) (told10_any _ (hT.kept H.k)) ?_;clear F H A;intro W A hk H F;replace hO1:=own_keptNo hO1 hk;replace hBw1:=Nat.le_trans hBw1 hk.size;clear hk;refine zd ?_;intro A F;refine hz_do1 F rfl (hw_t F rfl rfl rfl) (ex_move rfl (F.e rfl)) ?_;intro A F;refine hz_do1 (v:=(.bool true)) F rfl (hw_t F rfl rfl rfl) (ex_bin rfl (F.e rfl) gx_evc (rn_pnn _ _ _ _)) ?_;intro A F;refine hz_do1 F rfl (hw_t F rfl rfl rfl) (ex_move rfl (F.e rfl)) ?_;intro A F;refine hz_do1 F rfl (hw_t F rfl rfl rfl) (ex_bin rfl (F.e rfl) (F.e rfl) (rn_beql Tryz.underlying4)) ?_;intro A F;have hr11:(true == true)=true:=(by rfl)
 replace F:=F.hd (congrArg Value.bool hr11);refine hz_do F rfl (ex_pickT rfl (F.e rfl) (F.e rfl)) ?_;intro A F;refine zd ?_;intro A F;refine hz_do1 F rfl (hw_t F rfl rfl rfl) (ex_move rfl (F.e rfl)) ?_;intro A F;refine hz_do1 F rfl (hw_t F rfl rfl rfl) (ex_bin rfl (F.e rfl) gx_evc (rn_eql)) ?_;intro A F;refine hz_do1 F rfl (hw_t F rfl rfl rfl) (ex_move rfl (F.e rfl)) ?_;intro A F;refine hz_do1 F rfl (hw_t F rfl rfl rfl) (ex_bin rfl (F.e rfl) (F.e rfl) (rn_beql Tryz.underlying4)) ?_;intro A F;replace F:=F.hd (congrArg Value.bool hr11);refine hz_do F rfl (ex_pickT rfl (F.e rfl) (F.e rfl)) ?_;intro A F;refine zd ?_;intro A F;refine hz_do1 F rfl (hw_t F rfl rfl rfl) (ex_move rfl (F.e rfl)) ?_;intro A F;refine hz_do1 F rfl (hw_t F rfl rfl rfl) (ex_move rfl (F.e rfl)) ?_;intro A F;refine hz_no F rfl (hw_f (X:=true) F rfl rfl rfl) ?_;intro A F;refine hz_no F rfl (hw_f (X:=true) F rfl rfl rfl) ?_;intro A F;refine hz_do1 F rfl (hw_t F rfl rfl rfl) (ex_pickT rfl (F.e rfl) gx_evc) ?_;intro A F;refine hz_do F rfl (ex_pickT rfl (F.e rfl) (F.e rfl)) ?_;intro A F;refine zd ?_;intro A F;refine hz_do1 F rfl (hw_t F rfl rfl rfl) (ex_move rfl (F.e rfl)) ?_;intro A F;refine hz_do1 F rfl (hw_t F rfl rfl rfl) (ex_len rfl (gx_l1 (F.e rfl) gx_l0) (rn_lens Tryz.underlying69)) ?_;intro A F;refine hz_do1 F rfl (hw_t F rfl rfl rfl) (ex_bin rfl (F.e rfl) gx_evc (rn_eql)) ?_;intro A F;refine hz_do F rfl (ex_pickT rfl (F.e rfl) (F.e rfl)) ?_;intro A F;refine zd ?_;intro A F;refine hz_do1 F rfl (hw_t F rfl rfl rfl) (ex_move rfl (F.e rfl)) ?_;intro A F;refine hz_do1 F rfl (hw_t F rfl rfl rfl) (ex_bin rfl (F.e rfl) gx_evc (rn_eql)) ?_;intro A F;refine hz_do F rfl (ex_pickT rfl (F.e rfl) (F.e rfl)) ?_;intro A F;refine zd ?_;intro A F;refine hz_do1 F rfl (hw_t F rfl rfl rfl) (ex_move rfl (F.e rfl)) ?_;intro A F;refine hz_callk1 F H rfl (hw_t F rfl rfl rfl) (ex_call rfl rfl (gx_l1 (F.e rfl) gx_l0) fn_38) ((fnil_any _).2) ?_;clear F H A;intro W A hk H F;replace hO1:=own_keptNo hO1 hk;replace hBw1:=Nat.le_trans hBw1 hk.size;clear hk;refine hz_do1 F rfl (hw_t F rfl rfl rfl) (ex_bin rfl (F.e rfl) gx_evc (rn_eql)) ?_;intro A F;refine hz_do F rfl (ex_pickT rfl (F.e rfl) (F.e rfl)) ?_;intro A F;refine zd ?_;intro A F;refine hz_do1 F rfl (hw_t F rfl rfl rfl) (ex_move rfl (F.e rfl)) ?_;intro A F;refine hz_callk1 F H rfl (hw_t F rfl rfl rfl) (ex_call rfl rfl (gx_l1 (F.e rfl) gx_l0) fn_39) ((fnil_any _).1) ?_;clear F H A;intro W A hk H F;replace hO1:=own_keptNo hO1 hk;replace hBw1:=Nat.le_trans hBw1 hk.size;clear hk;refine hz_do1 F rfl (hw_t F rfl rfl rfl) (ex_bin rfl (F.e rfl) gx_evc (rn_eql)) ?_;intro A F;refine hz_do F rfl (ex_pickT rfl (F.e rfl) (F.e rfl)) ?_;intro A F;refine zd ?_;intro A F;refine wpList_nil (hK9 _ _ ?_);refine gx_ret ?_;refine (show bodyPost _ Tryz.f13 RR Exit.ret _ _ from zr ?_);exact ⟨by first|rfl|simp,H.k.below (Nat.le_refl _) (fun _ _ f9=>f9)⟩
set_option maxHeartbeats 8000000 in
theorem news_no (v m:Int) (w:World) (hT:Tabs w) (hok:¬ NewOk v m):Calls Tryz.prog 13 #[.int .i64 v,.int .i64 m] w fun e w'=>e=.returned (.bool true)∧Below w.heap.size w w':=by
 let RR:Ending→World→Prop:=fun e w'=>e=.returned (.bool true)∧Below w.heap.size w w'
 go_enter Tryz.func13,Tryz.ntmps13
 generalize hA:({ tmps:=_,defers:=[] }:Act)=A;have F:Fr A 72 [(1,(.int .i64 m)),(0,(.int .i64 v))]:=by rw[← hA];exact (Fr.cons (i:=1) (v:=(.int .i64 m)) (Fr.cons (i:=0) (v:=(.int .i64 v)) (Fr.nil0 rfl rfl) rfl) rfl)
 clear hA;have H:=Hp.start w;have hX:((decide (v=4)||decide (v=5))&&decide (2≤m))=false:=by unfold NewOk at hok;rw[← Bool.not_eq_true,Bool.and_eq_true,Bool.or_eq_true,decide_eq_true_eq,decide_eq_true_eq,decide_eq_true_eq];exact hok
 refine wp_seq_k (fun K1 hK1=>gx_region ?_);refine zd ?_;intro A F;refine wpList_nil (hK1 _ _ ?_);refine wp_seq_k (fun K2 hK2=>gx_region ?_)
 iterate 2 (refine zd ?_;intro A F)
 refine hz_callk F H rfl (ex_call rfl rfl (gx_l1 (F.e rfl) (gx_l1 (F.e rfl) (gx_l1 gx_evc gx_l0))) fn_32) (fnew_no hok true _) ?_;clear F H A;intro W A hk H F;clear hk
 iterate 5 (refine zd ?_;intro A F)
 refine wpList_nil (hK2 _ _ ?_);refine wp_seq_k (fun K4 hK4=>gx_region ?_);refine zd ?_;intro A F;refine zb (rn_eql) ?_;intro A F;refine zd ?_;intro A F;refine zg ?_;intro A F;refine zgb (rn_eql) ?_;intro A F;refine hz_do F rfl (ex_pickO rfl (F.e rfl) (fun hx=>(F.o rfl (gnt hx))) rfl) ?_;intro A F;refine zd ?_;intro A F;refine zg ?_;intro A F;refine zgb (rn_geq) ?_;intro A F;refine hz_do F rfl (ex_pickA rfl (F.e rfl) (fun hx=>(F.o rfl hx)) rfl) ?_;intro A F;have hr5:(((decide (v=4))||(decide (v=5)))&&(decide (2≤m)))=false:=hX;replace F:=F.hd (congrArg Value.bool hr5);refine zd ?_;intro A F;refine wpList_nil (hK4 _ _ ?_);refine wp_seq_k (fun K6 hK6=>gx_region ?_);refine zd ?_;intro A F;refine wpList_nil (hK6 _ _ ?_);refine wp_seq_k (fun K7 hK7=>gx_region ?_);refine zd ?_;intro A F;refine hz_bs (c:=#[.int .u8 1]) (t:=5) (m:=1) F H rfl (ex_buildSlice rfl (gx_p1 gx_evc gx_p0) (by kernel_rfl)) ?_;clear F A;intro b8 W A hk hN H9 F;clear H;have H:=H9;clear H9;clear hk hN;refine hz_callk F H rfl (ex_call rfl rfl (gx_l1 (F.e rfl) (gx_l1 (F.e rfl) gx_l0)) fn_34) (feed_nil ((some ⟨b8,0,none⟩)) 1 1 _) ?_;clear F H A;intro W A hk H F;clear hk
 iterate 5 (refine zd ?_;intro A F)
 refine wpList_nil (hK7 _ _ ?_);refine wp_seq_k (fun K10 hK10=>gx_region ?_);refine hz_callk F H rfl (ex_call rfl rfl gx_l0 fn_33) (told10_any _ (hT.kept H.k)) ?_;clear F H A;intro W A hk H F;clear hk;refine zd ?_;intro A F;refine hz_do1 F rfl (hw_t F rfl rfl rfl) (ex_move rfl (F.e rfl)) ?_;intro A F;refine hz_do1 (v:=(.bool false)) F rfl (hw_t F rfl rfl rfl) (ex_bin rfl (F.e rfl) gx_evc (rn_nnn _ _ _)) ?_;intro A F;refine hz_do1 F rfl (hw_t F rfl rfl rfl) (ex_move rfl (F.e rfl)) ?_;intro A F;refine hz_do1 F rfl (hw_t F rfl rfl rfl) (ex_bin rfl (F.e rfl) (F.e rfl) (rn_beql Tryz.underlying4)) ?_;intro A F;have hr12:(false == false)=true:=(by rfl)
 replace F:=F.hd (congrArg Value.bool hr12);refine hz_do F rfl (ex_pickT rfl (F.e rfl) (F.e rfl)) ?_;intro A F;refine zd ?_;intro A F;refine hz_do1 F rfl (hw_t F rfl rfl rfl) (ex_move rfl (F.e rfl)) ?_;intro A F;refine hz_do1 F rfl (hw_t F rfl rfl rfl) (ex_bin rfl (F.e rfl) gx_evc (rn_eql)) ?_;intro A F;refine hz_do1 F rfl (hw_t F rfl rfl rfl) (ex_move rfl (F.e rfl)) ?_;intro A F;refine hz_do1 F rfl (hw_t F rfl rfl rfl) (ex_bin rfl (F.e rfl) (F.e rfl) (rn_beql Tryz.underlying4)) ?_;intro A F;replace F:=F.hd (congrArg Value.bool hr12);refine hz_do F rfl (ex_pickT rfl (F.e rfl) (F.e rfl)) ?_;intro A F;refine zd ?_;intro A F;refine hz_do1 F rfl (hw_t F rfl rfl rfl) (ex_move rfl (F.e rfl)) ?_;intro A F;refine hz_do1 F rfl (hw_t F rfl rfl rfl) (ex_move rfl (F.e rfl)) ?_;intro A F;refine hz_do1 F rfl (hw_f (X:=false) F rfl rfl rfl) (ex_move rfl (F.e rfl)) ?_;intro A F;refine hz_do1 F rfl (hw_f (X:=false) F rfl rfl rfl) (ex_bin rfl (F.e rfl) gx_evc (rn_eql)) ?_;intro A F;refine hz_do1 F rfl (hw_t F rfl rfl rfl) (ex_pickF rfl (F.e rfl) (F.e rfl)) ?_;intro A F;refine hz_do F rfl (ex_pickT rfl (F.e rfl) (F.e rfl)) ?_;intro A F;refine zd ?_;intro A F;refine hz_do1 F rfl (hw_t F rfl rfl rfl) (ex_move rfl (F.e rfl)) ?_;intro A F;refine hz_do1 F rfl (hw_t F rfl rfl rfl) (ex_len rfl (gx_l1 (F.e rfl) gx_l0) (rn_lens Tryz.underlying69)) ?_;intro A F;refine hz_do1 F rfl (hw_t F rfl rfl rfl) (ex_bin rfl (F.e rfl) gx_evc (rn_eql)) ?_;intro A F;refine hz_do F rfl (ex_pickT rfl (F.e rfl) (F.e rfl)) ?_;intro A F;refine zd ?_;intro A F;refine hz_do1 F rfl (hw_t F rfl rfl rfl) (ex_move rfl (F.e rfl)) ?_;intro A F;refine hz_do1 F rfl (hw_t F rfl rfl rfl) (ex_bin rfl (F.e rfl) gx_evc (rn_eql)) ?_;intro A F;refine hz_do F rfl (ex_pickT rfl (F.e rfl) (F.e rfl)) ?_;intro A F;refine zd ?_;intro A F;refine hz_do1 F rfl (hw_t F rfl rfl rfl) (ex_move rfl (F.e rfl)) ?_;intro A F;refine hz_callk1 F H rfl (hw_t F rfl rfl rfl) (ex_call rfl rfl (gx_l1 (F.e rfl) gx_l0) fn_38) ((fnil_any _).2) ?_;clear F H A;intro W A hk H F;clear hk;refine hz_do1 F rfl (hw_t F rfl rfl rfl) (ex_bin rfl (F.e rfl) gx_evc (rn_eql)) ?_;intro A F;refine hz_do F rfl (ex_pickT rfl (F.e rfl) (F.e rfl)) ?_;intro A F;refine zd ?_;intro A F;refine hz_do1 F rfl (hw_t F rfl rfl rfl) (ex_move rfl (F.e rfl)) ?_;intro A F;refine hz_callk1 F H rfl (hw_t F rfl rfl rfl) (ex_call rfl rfl (gx_l1 (F.e rfl) gx_l0) fn_39) ((fnil_any _).1) ?_;clear F H A;intro W A hk H F;clear hk;refine hz_do1 F rfl (hw_t F rfl rfl rfl) (ex_bin rfl (F.e rfl) gx_evc (rn_eql)) ?_;intro A F;refine hz_do F rfl (ex_pickT rfl (F.e rfl) (F.e rfl)) ?_;intro A F;refine zd ?_;intro A F;refine wpList_nil (hK10 _ _ ?_);refine gx_ret ?_;refine (show bodyPost _ Tryz.f13 RR Exit.ret _ _ from zr ?_);exact ⟨by first|rfl|simp,H.k.below (Nat.le_refl _) (fun _ _ f9=>f9)⟩
theorem framerNews_full (v m:Int) (w:World) (w0:(Lit.int .i64 v).wf=true) (w1:(Lit.int .i64 m).wf=true) (hT:Tabs w):Calls Tryz.prog 13 #[.int .i64 v,.int .i64 m] w fun e w'=>e=.returned (.bool true)∧Below w.heap.size w w':=by
 by_cases hok:NewOk v m
 ·exact news_yes v m w hT hok
 ·exact news_no v m w hT hok
end Go.Proofs.YtdeecgmihfakgaaGreatDoor
