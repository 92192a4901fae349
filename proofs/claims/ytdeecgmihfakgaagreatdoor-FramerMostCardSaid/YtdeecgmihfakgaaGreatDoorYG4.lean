import Derived.Test.YtdeecgmihfakgaaGreatDoorYG3
import Derived.Test.YtdeecgmihfakgaaGreatDoorYFM
namespace Go.Proofs.YtdeecgmihfakgaaGreatDoor
open Go.RowKit
set_option linter.unusedVariables false
set_option linter.unusedSimpArgs false
set_option maxRecDepth 100000
theorem RefR.c2 {w:World} {r:Nat} {B:ByteArray} {l:List UInt8} {e:Int} (h:RefR w r B l e):w.cell? ⟨r,2,none⟩=some (.int .i64 e):=by
 obtain ⟨a,hb,_⟩:=h;simpa using hb.cell 2
theorem RefR.c1 {w:World} {r:Nat} {B:ByteArray} {l:List UInt8} {e:Int} (h:RefR w r B l e) (he:e=0):w.cell? ⟨r,1,none⟩=some (.int .i64 ((B.size:Int) - (l.length:Int))):=by
 obtain ⟨a,hb,h1,h2,h3,_⟩:=h;have h4:l.length=B.size - a:=by rw[h3 he,List.length_drop,Array.length_toList];rfl
 have h5:((B.size:Int) - (l.length:Int))=(a:Int):=by omega
 rw[h5];simpa using hb.cell 1
theorem rv_take:∀ (f i n:Nat) (l:List UInt8),f≤l.length→(rv f i n (l.take f) 0).1=(rv f i n l 0).1∧(rv f i n (l.take f) 0).2.2=(rv f i n l 0).2.2∧((rv f i n l 0).2.2=0→(rv f i n (l.take f) 0).2.1.length+(l.length - f)=(rv f i n l 0).2.1.length)
 | 0,i,n,l,_=>⟨rfl,rfl,fun h=>by cases h⟩
 | f+1,i,n,[],h=>by simp at h
 | f+1,i,n,c :: t,h=>by
  have hf:f≤t.length:=by simpa using h
  have ih:=fun i n=>rv_take f i n t hf
  have t1:∀ x:List UInt8,taken 1 (c :: x) 0=[c]:=fun x=>by unfold taken;rw[if_pos ⟨rfl,by decide,by simp only[List.length_cons];omega⟩];rfl
  have l1:∀ x:List UInt8,leftL 1 (c :: x) 0=x:=fun x=>by unfold leftL;rw[if_pos rfl,if_pos ⟨by decide,by simp only[List.length_cons];omega⟩];rfl
  have e1:∀ x:List UInt8,leftE 1 (c :: x) 0=0:=fun x=>by unfold leftE;rw[if_pos rfl,if_pos ⟨by decide,by simp only[List.length_cons];omega⟩]
  rw[List.take_succ_cons]
  by_cases h1:128≤num [c]
  ·rw[rv_more (e1 _) (by rw[t1];exact h1),rv_more (e1 _) (by rw[t1];exact h1),t1,t1,l1,l1,e1,e1]
   have:=ih (i+1) (n+num [c] % 128 * 128 ^ i)
   refine ⟨this.1,this.2.1,fun h9=>?_⟩;have h8:=this.2.2 h9;simp only[List.length_cons];omega
  ·by_cases h2:num [c]=0∧0 < i
   ·rw[rv_zero (e1 _) (by rw[t1];exact h2.1) h2.2,rv_zero (e1 _) (by rw[t1];exact h2.1) h2.2]
    exact ⟨rfl,rfl,fun h=>by cases h⟩
   ·rw[rv_done (e1 _) (by rw[t1];omega) (by rw[t1];exact h2),rv_done (e1 _) (by rw[t1];omega) (by rw[t1];exact h2),t1,t1,l1,l1,e1,e1]
    refine ⟨rfl,rfl,fun _=>?_⟩;simp only[List.length_take,List.length_cons];omega
theorem head_full (l:List UInt8):headE l=(headS l).2.2∧((headS l).2.2=0→headB l=⟨((num (taken 1 l 0) / 16:Nat):Int),num (taken 1 l 0) % 16,(l.length:Int) - ((headS l).2.1.length:Int),(headS l).1⟩):=by
 by_cases h5:l.length≤5
 ·have e:l.take 5=l:=List.take_of_length_le h5
  have hE:headE l=(headS l).2.2:=by unfold headE;rw[e]
  refine ⟨hE,fun h=>?_⟩;unfold headB;rw[if_pos (hE.trans h),e]
 ·obtain ⟨c,t,rfl⟩:∃ c t,l=c :: t:=by
   cases l with
   | nil=>simp at h5
   | cons c t=>exact ⟨c,t,rfl⟩
  have ht:4≤t.length:=by simp at h5;omega
  have t1:∀ x:List UInt8,taken 1 (c :: x) 0=[c]:=fun x=>by unfold taken;rw[if_pos ⟨rfl,by decide,by simp only[List.length_cons];omega⟩];rfl
  have l1:∀ x:List UInt8,leftL 1 (c :: x) 0=x:=fun x=>by unfold leftL;rw[if_pos rfl,if_pos ⟨by decide,by simp only[List.length_cons];omega⟩];rfl
  have e1:∀ x:List UInt8,leftE 1 (c :: x) 0=0:=fun x=>by unfold leftE;rw[if_pos rfl,if_pos ⟨by decide,by simp only[List.length_cons];omega⟩]
  have h9:=rv_take 4 0 0 t ht;have hS:∀ x,headS (c :: x)=rv 4 0 0 x 0:=fun x=>by unfold headS;rw[l1,e1]
  have hE:headE (c :: t)=(headS (c :: t)).2.2:=by
   unfold headE;rw[List.take_succ_cons,hS,hS];exact h9.2.1
  refine ⟨hE,fun h=>?_⟩;have h8:=h9.2.2 (by rw[hS]at h;exact h);unfold headB;rw[if_pos (hE.trans h),List.take_succ_cons,hS,hS,t1,t1,h9.1]
  congr 1
  simp only[List.length_cons,List.length_take];omega
theorem ag_133 (w:World):(isAgg 133).run Tryz.prog w=.ok false w:=by kernel_rfl
instance iq1:NA 133:=⟨ag_133⟩
theorem fa_129_0 (B o:Nat) (w:World):(Instr.fieldAt 129 (.pointer (some ⟨B,o,none⟩)) 0).run Tryz.prog w=.ok (.pointer (some ⟨B,o+0,none⟩)) w:=by
 have u:=Tryz.underlying129
 go_simp
instance iq2:FA 129 0 0:=⟨fa_129_0⟩
theorem fa_129_1 (B o:Nat) (w:World):(Instr.fieldAt 129 (.pointer (some ⟨B,o,none⟩)) 1).run Tryz.prog w=.ok (.pointer (some ⟨B,o+1,none⟩)) w:=by
 have u:=Tryz.underlying129
 go_simp
instance iq3:FA 129 1 1:=⟨fa_129_1⟩
theorem fa_129_2 (B o:Nat) (w:World):(Instr.fieldAt 129 (.pointer (some ⟨B,o,none⟩)) 2).run Tryz.prog w=.ok (.pointer (some ⟨B,o+2,none⟩)) w:=by
 have u:=Tryz.underlying129
 go_simp
instance iq4:FA 129 2 2:=⟨fa_129_2⟩
theorem fa_129_3 (B o:Nat) (w:World):(Instr.fieldAt 129 (.pointer (some ⟨B,o,none⟩)) 3).run Tryz.prog w=.ok (.pointer (some ⟨B,o+3,none⟩)) w:=by
 have u:=Tryz.underlying129
 go_simp
instance iq5:FA 129 3 3:=⟨fa_129_3⟩
theorem fa_137_0 (B o:Nat) (w:World):(Instr.fieldAt 137 (.pointer (some ⟨B,o,none⟩)) 0).run Tryz.prog w=.ok (.pointer (some ⟨B,o+0,none⟩)) w:=by
 have u:=Tryz.underlying137
 go_simp
instance iq6:FA 137 0 0:=⟨fa_137_0⟩
theorem fa_137_1 (B o:Nat) (w:World):(Instr.fieldAt 137 (.pointer (some ⟨B,o,none⟩)) 1).run Tryz.prog w=.ok (.pointer (some ⟨B,o+1,none⟩)) w:=by
 have u:=Tryz.underlying137
 go_simp
instance iq7:FA 137 1 1:=⟨fa_137_1⟩
theorem fa_137_2 (B o:Nat) (w:World):(Instr.fieldAt 137 (.pointer (some ⟨B,o,none⟩)) 2).run Tryz.prog w=.ok (.pointer (some ⟨B,o+2,none⟩)) w:=by
 have u:=Tryz.underlying137
 go_simp
instance iq8:FA 137 2 2:=⟨fa_137_2⟩
section
variable {P:Program} {ops:Array Oper} {Q:Exit→Act→World→Prop} {a:Act} {w w0:World} {rest:List Oper} {N n:Nat} {L:List (Nat × Value)} {v:Value} {ty:TypeId} {ps:String} {af:Array Edge} {op:Op} {gd:Nat × Bool} {α:Type}
end
theorem Rd.same {B:ByteArray} {w W:World} {T:Nat→Prop} {r:Nat} {S S':Ts} (h:Rd B w T r S W) (h1:S'.l=S.l) (h2:S'.e=S.e):Rd B w T r S' W:=⟨by rw[h1];exact h.n,by rw[h1,h2];exact h.r,h.k⟩
end Go.Proofs.YtdeecgmihfakgaaGreatDoor
