import Derived.Test.YtkochkhfbhjicaaGreatDoorYFB
import Derived.Test.YtkochkhfbhjicaaGreatDoorYF3
import Derived.Test.YtkochkhfbhjicaaGreatDoorYFN
import Derived.Test.YtkochkhfbhjicaaGreatDoorYFC
import Derived.Test.YtkochkhfbhjicaaGreatDoorYF2
namespace Go.Proofs.YtkochkhfbhjicaaGreatDoor
set_option maxHeartbeats 4000000
open Go.RowKit
set_option linter.unusedVariables false
set_option linter.unusedSimpArgs false
set_option maxRecDepth 100000
theorem vx (s:ByteArray) (w:World) (hs:s.size≤140737488355328):Calls Tryz.prog 39 #[.string s] w λe w'=>e=.returned (.int .i64 ((2+s.size:Nat):Int))∧Kept No w w':=by
 go_enter Tryz.func39,Tryz.ntmps39
 go_wp2
 go_ret
 exact ⟨by first|rfl|(congr 2;done)|(congr 2;push_cast;omega),Kept.refl _ _⟩
def j14 (v:Int) (L:List Pr):Nat:=if v=4 then 0 else j6s L
theorem vP (v:Int) (a:Option Addr) (c:Nat) (L:List Pr) (w:World) (hr:Row w a (PC L)) (hl:L.length≤100000) (hw:∀ p∈L,p.wf') (hT:Tabs w) :
  Calls Tryz.prog 38 #[.int .i64 v,.slice a L.length c] w λe w'=>e=.returned (.int .i64 (j14 v L))∧Kept No w w':=by
 unfold j14
 by_cases h4:v=4
 ·rw[if_pos h4]
  have hI:(v == 4)=true:=by simp[h4]
  go_enter Tryz.func38,Tryz.ntmps38
  go_wp2
  go_ret
  exact ⟨rfl,Kept.refl _ _⟩
 ·rw[if_neg h4]
  have hI:(v == 4)=false:=by simpa using h4
  have H:=Lib.hid (jEj a c L w hr hl hw hT);clear h4
  go_enter Tryz.func38,Tryz.ntmps38
  go_wp2_with (go_at_call 63;refine H.out.mono ?_;rintro e w1 ⟨rfl,hk⟩)
  go_ret
  exact ⟨rfl,hk⟩
def xN (v k:Int):Bool:=(decide (v=4)&&(decide (1≤k)&&decide (k<15)))||(decide (v=5)&&(decide (1≤k)&&decide (k≤15)))
theorem jBa (v k:Int) (w:World):Calls Tryz.prog 57 #[.int .i64 v,.int .i64 k] w λe w'=>e=.returned (.bool (xN v k))∧w=w':=by
 unfold xN
 by_cases h4:v=4
 ·subst h4
  by_cases h1:(1:Int)≤k
  ·have h1d:decide ((1:Int)≤k)=true:=decide_eq_true h1
   go_enter Tryz.func57,Tryz.ntmps57
   go_wp2
   go_ret
   simp[h1]
  ·have h1d:decide ((1:Int)≤k)=false:=decide_eq_false h1
   go_enter Tryz.func57,Tryz.ntmps57
   go_wp2
   go_ret
   simp[h1]
 ·have hI:(v == 4)=false:=by simpa using h4
  by_cases h5:v=5
  ·subst h5
   by_cases h1:(1:Int)≤k
   ·have h1d:decide ((1:Int)≤k)=true:=decide_eq_true h1
    go_enter Tryz.func57,Tryz.ntmps57
    go_wp2
    go_ret
    simp[h1]
   ·have h1d:decide ((1:Int)≤k)=false:=decide_eq_false h1
    go_enter Tryz.func57,Tryz.ntmps57
    go_wp2
    go_ret
    simp[h1]
  ·have hI5:(v == 5)=false:=by simpa using h5
   go_enter Tryz.func57,Tryz.ntmps57
   go_wp2
   go_ret
   simp[h4,h5]
theorem jEe (p:Pk) (s:Sl) (w:World) (N:Int) (hN:N=if p.qos=0 then 0 else 2):Calls Tryz.prog 40 #[p.val s] w λe w'=>e=.returned (.int .i64 N)∧Kept No w w':=by
 simp only[Pk.val,Pk.cells]
 by_cases h:p.qos=0
 ·rw[if_pos h]at hN
  subst hN;have hI:((p.qos:Int) == 0)=true:=by rw[h];rfl
  go_enter Tryz.func40,Tryz.ntmps40
  go_wp2
  go_ret
  exact ⟨rfl,(Kept.refl No w).alloc _⟩
 ·rw[if_neg h]at hN
  subst hN;have hI:((p.qos:Int) == 0)=false:=by simp;omega
  go_enter Tryz.func40,Tryz.ntmps40
  go_wp2
  go_ret
  exact ⟨rfl,(Kept.refl No w).alloc _⟩
structure Wf (p:Pk):Prop where
 w:∀ x∈p.willProps,x.wf'
 p:∀ x∈p.props,x.wf'
def j1g (v:Int) (p:Pk):Bool:=if v=4 then (decide (p.props.length=0)&&decide (p.willProps.length=0)) else (ql p.kind p.props&&ql 16 p.willProps)
theorem j6h (v:Int) (p:Pk) (s:Sl) (w:World) (hp:p.At s w) (hf:p.few) (hw:Wf p) (hT:Tabs w):Calls Tryz.prog 60 #[.int .i64 v,p.val s] w λe w'=>e=.returned (.bool (j1g v p))∧Kept No w w':=by
  have hkB:Kept No w (w.alloc (.cells (p.cells s) 36)):=(Kept.refl No w).alloc _
  by_cases h4:v=4
  · have hI:(v == 4)=true:=by simp[h4]
    have hR:j1g v p=(decide (p.props.length=0)&&decide (p.willProps.length=0)):=by unfold j1g;rw[if_pos h4]
    rw[hR];clear hR h4;simp only[Pk.val,Pk.cells]at hkB ⊢
    by_cases h1:p.props.length=0
    · have e1:((p.props.length:Int) == 0)=true:=by simp;exact List.length_eq_zero_iff.1 h1
      go_enter Tryz.func60,Tryz.ntmps60
      go_wp2
      go_ret
      exact ⟨by have e3:((p.willProps.length:Int) == 0)=decide (p.willProps=[]):=by (rw[Bool.eq_iff_iff];simp)
                simp[h1,e3],(Kept.refl No w).alloc _⟩
    · have e1:((p.props.length:Int) == 0)=false:=by simp;exact λh=>h1 (by rw[h];rfl)
      go_enter Tryz.func60,Tryz.ntmps60
      go_wp2
      go_ret
      exact ⟨by have e3:((p.willProps.length:Int) == 0)=decide (p.willProps=[]):=by (rw[Bool.eq_iff_iff];simp)
                simp[h1,e3],(Kept.refl No w).alloc _⟩
  · have hI:(v == 4)=false:=by simpa using h4
    have hR:j1g v p=(ql p.kind p.props&&ql 16 p.willProps):=by unfold j1g;rw[if_neg h4]
    rw[hR];clear hR h4;have C1:=Lib.hid (λwx (hk:Kept No w wx)=>j79 p.kind s.pa s.pc p.props wx (hp.hp.keptNo hk) hf.hp hw.p (hT.kept hk));have C2:=Lib.hid (λwx (hk:Kept No w wx)=>j79 16 s.wa s.wc p.willProps wx (hp.hw.keptNo hk) hf.hw hw.w (hT.kept hk));have hB1:=Blk.new w 36 (p.cells s);have CB:=Lib.hid (λwx (hk:Kept No (w.alloc (.cells (p.cells s) 36)) wx) (i:Nat)=>(hB1.kept hk (λf=>f)).cell i);clear hB1;generalize hq1:ql p.kind p.props=q1 at *;generalize hq2:ql 16 p.willProps=q2 at *;clear hq1 hq2;simp only[Pk.val,Pk.cells]at hkB CB ⊢;cases q1 with
    | false =>
      go_enter Tryz.func60,Tryz.ntmps60
      go_wp2_with fail
      go_at_call 78
      refine (C1.out _ hkB).mono ?_;rintro e w1 ⟨rfl,hk1⟩
      go_wp2
      go_ret
      exact ⟨rfl,hkB.trans hk1⟩
    | true =>
      go_enter Tryz.func60,Tryz.ntmps60
      go_wp2_with fail
      go_at_call 78
      refine (C1.out _ hkB).mono ?_;rintro e w1 ⟨rfl,hk1⟩;have y:w1.cell? ⟨w.heap.size,13,none⟩=some (.slice s.wa p.willProps.length s.wc):=CB.out w1 hk1 13
      go_wp2_with fail
      go_at_call 78
      refine (C2.out _ (hkB.trans hk1)).mono ?_;rintro e w2 ⟨rfl,hk2⟩
      go_wp2
      go_ret
      exact ⟨by simp,(hkB.trans hk1).trans hk2⟩
section
variable {P:Program} {ops:Array Oper} {Q:Exit→Act→World→Prop} {a:Act} {w:World} {rest:List Oper}
end
def zk (k:Int):Pk:=⟨k,false,false,0,0,false,0,⟨#[]⟩,false,false,false,0,false,[],⟨#[]⟩,⟨#[]⟩,⟨#[]⟩,⟨#[]⟩,false,0,⟨#[]⟩,⟨#[]⟩,[],[],[]⟩
def j03 (v:Int) (p:Pk):Bool :=
 if 2<p.qos∨(p.dup=true∧p.qos=0) then false else if decide (p.id=0)≠decide (p.qos=0) then false
 else if v=5∧p.topic.size=0 then (qg p.props 35).isSome else xD p.topic
theorem j3n (v:Int) (p:Pk) (s:Sl) (w:World) (hp:p.At s w) (hf:p.few) (ht:p.topic.size≤9223372036854775807) (hT:Tabs w):Calls Tryz.prog 81 #[.int .i64 v,p.val s] w λe w'=>e=.returned (.bool (j03 v p))∧Kept No w w':=by
 have hkB:Kept No w (w.alloc (.cells (p.cells s) 36)):=(Kept.refl No w).alloc _;have CG:=Lib.hid (λwx (hk:Kept No w wx)=>j8q s.pa s.pc p.props 35 wx (hp.hp.keptNo hk) hf.hp);have CN:=Lib.hid (λwx (hk:Kept No w wx)=>j69 p.topic wx ht (hT.kept hk));generalize hR:j03 v p=R;unfold j03 at hR;simp only[Pk.val,Pk.cells]at hkB ⊢
 by_cases h1:2<p.qos
 ·rw[if_pos (.inl h1)]at hR
  subst hR;have hI:(2:Int)<(p.qos:Int):=by omega
  go_enter Tryz.func81,Tryz.ntmps81
  go_wp2
  go_ret
  exact ⟨rfl,(Kept.refl No w).alloc _⟩
 have hI1:decide ((2:Int)<(p.qos:Int))=false:=by simp;omega
 by_cases h2:p.dup=true∧p.qos=0
 ·rw[if_pos (.inr h2)]at hR
  subst hR;obtain ⟨h2a,h2b⟩:=h2;have hq:((p.qos:Int) == 0)=true:=by rw[h2b];rfl
  go_enter Tryz.func81,Tryz.ntmps81
  go_wp2
  go_ret
  exact ⟨rfl,(Kept.refl No w).alloc _⟩
 rw[if_neg (by intro h;rcases h with h|h;exact h1 h;exact h2 h)]at hR;obtain ⟨bi,hbi⟩:∃ b,b=decide (p.id=0):=⟨_,rfl⟩
 obtain ⟨bq,hbq⟩:∃ b,b=decide (p.qos=0):=⟨_,rfl⟩
 have ei:((p.id:Int) == 0)=bi:=by rw[hbi,Bool.eq_iff_iff];simp
 have eq:((p.qos:Int) == 0)=bq:=by rw[hbq,Bool.eq_iff_iff];simp
 have hd:(p.dup&&bq)=false:=by
  cases hdd:p.dup with
  | false=>rfl
  | true=>rw[hbq];simp;intro h;exact h2 ⟨hdd,h⟩
 rw[← hbi,← hbq]at hR;clear hbi hbq h2;generalize hdg:p.dup=dd at *;clear hdg;generalize hpt:p.topic=tp at *;clear hpt;have CB:=Lib.hid (show ∀ wx,Kept No (w.alloc (.cells #[.int .i64 p.kind,.bool dd,.bool p.retain,.int .u8 p.qos,.int .u16 p.id,.bool p.clean,.int .u16 p.keep,.string p.client,.bool p.hasWill,.bool p.hasUser,.bool p.hasPass,.int .u8 p.willQoS,.bool p.willRetain,.slice s.wa p.willProps.length s.wc,.string p.willTopic,.string p.willLoad,.string p.user,.string p.pass,.bool p.present,.int .u8 p.code,.string tp,.string p.load,.slice s.fa p.filters.length s.fc,.slice s.ca p.codes.length s.cc,.slice s.pa p.props.length s.pc] 36)) wx→Kept No w wx from λwx hk=>((Kept.refl No w).alloc _).trans hk);clear CB;cases dd with
 | false =>
  cases bq with
  | false =>
   cases bi with
   | false =>
    rw[if_neg (by simp)]at hR
    by_cases h5:v=5
    ·have hv:(v == 5)=true:=by simp[h5]
     by_cases hz:tp.size=0
     ·obtain rfl:=zu hz
      rw[if_pos ⟨h5,hz⟩]at hR;clear h5;generalize hG:qg p.props 35=G at *;clear hG;subst hR
      go_enter Tryz.func81,Tryz.ntmps81
      go_wp2_with fail
      go_at_call 84
      refine (CG.out _ hkB).mono ?_;rintro e w1 ⟨rfl,hk1⟩;unfold getV;generalize (G.getD Pr.zero)=gp;obtain ⟨gi,gn,ga,gb⟩:=gp;simp only[Pr.val]
      go_wp2
      go_ret
      exact ⟨rfl,(hkB.trans hk1).alloc _⟩
     ·have hE:=zy (s:=tp) (by omega)
      rw[if_neg (λh=>hz h.2)]at hR;subst hR;clear h5 hz
      go_enter Tryz.func81,Tryz.ntmps81
      go_wp2_with fail
      go_at_call 98
      refine (CN.out _ hkB).mono ?_;rintro e w1 ⟨rfl,hk1⟩
      go_wp2
      go_ret
      exact ⟨rfl,hkB.trans hk1⟩
    ·have hv:(v == 5)=false:=by simpa using h5
     rw[if_neg (λh=>h5 h.1)]at hR;subst hR;clear h5
     go_enter Tryz.func81,Tryz.ntmps81
     go_wp2_with fail
     go_at_call 98
     refine (CN.out _ hkB).mono ?_;rintro e w1 ⟨rfl,hk1⟩
     go_wp2
     go_ret
     exact ⟨rfl,hkB.trans hk1⟩
   | true =>
    rw[if_pos (by simp)]at hR;subst hR
    go_enter Tryz.func81,Tryz.ntmps81
    go_wp2
    go_ret
    exact ⟨rfl,(Kept.refl No w).alloc _⟩
  | true =>
   cases bi with
   | false =>
    rw[if_pos (by simp)]at hR;subst hR
    go_enter Tryz.func81,Tryz.ntmps81
    go_wp2
    go_ret
    exact ⟨rfl,(Kept.refl No w).alloc _⟩
   | true =>
    rw[if_neg (by simp)]at hR
    by_cases h5:v=5
    ·have hv:(v == 5)=true:=by simp[h5]
     by_cases hz:tp.size=0
     ·obtain rfl:=zu hz
      rw[if_pos ⟨h5,hz⟩]at hR;clear h5;generalize hG:qg p.props 35=G at *;clear hG;subst hR
      go_enter Tryz.func81,Tryz.ntmps81
      go_wp2_with fail
      go_at_call 84
      refine (CG.out _ hkB).mono ?_;rintro e w1 ⟨rfl,hk1⟩;unfold getV;generalize (G.getD Pr.zero)=gp;obtain ⟨gi,gn,ga,gb⟩:=gp;simp only[Pr.val]
      go_wp2
      go_ret
      exact ⟨rfl,(hkB.trans hk1).alloc _⟩
     ·have hE:=zy (s:=tp) (by omega)
      rw[if_neg (λh=>hz h.2)]at hR;subst hR;clear h5 hz
      go_enter Tryz.func81,Tryz.ntmps81
      go_wp2_with fail
      go_at_call 98
      refine (CN.out _ hkB).mono ?_;rintro e w1 ⟨rfl,hk1⟩
      go_wp2
      go_ret
      exact ⟨rfl,hkB.trans hk1⟩
    ·have hv:(v == 5)=false:=by simpa using h5
     rw[if_neg (λh=>h5 h.1)]at hR;subst hR;clear h5
     go_enter Tryz.func81,Tryz.ntmps81
     go_wp2_with fail
     go_at_call 98
     refine (CN.out _ hkB).mono ?_;rintro e w1 ⟨rfl,hk1⟩
     go_wp2
     go_ret
     exact ⟨rfl,hkB.trans hk1⟩
 | true =>
  cases bq with
  | false =>
   cases bi with
   | false =>
    rw[if_neg (by simp)]at hR
    by_cases h5:v=5
    ·have hv:(v == 5)=true:=by simp[h5]
     by_cases hz:tp.size=0
     ·obtain rfl:=zu hz
      rw[if_pos ⟨h5,hz⟩]at hR;clear h5;generalize hG:qg p.props 35=G at *;clear hG;subst hR
      go_enter Tryz.func81,Tryz.ntmps81
      go_wp2_with fail
      go_at_call 84
      refine (CG.out _ hkB).mono ?_;rintro e w1 ⟨rfl,hk1⟩;unfold getV;generalize (G.getD Pr.zero)=gp;obtain ⟨gi,gn,ga,gb⟩:=gp;simp only[Pr.val]
      go_wp2
      go_ret
      exact ⟨rfl,(hkB.trans hk1).alloc _⟩
     ·have hE:=zy (s:=tp) (by omega)
      rw[if_neg (λh=>hz h.2)]at hR;subst hR;clear h5 hz
      go_enter Tryz.func81,Tryz.ntmps81
      go_wp2_with fail
      go_at_call 98
      refine (CN.out _ hkB).mono ?_;rintro e w1 ⟨rfl,hk1⟩
      go_wp2
      go_ret
      exact ⟨rfl,hkB.trans hk1⟩
    ·have hv:(v == 5)=false:=by simpa using h5
     rw[if_neg (λh=>h5 h.1)]at hR;subst hR;clear h5
     go_enter Tryz.func81,Tryz.ntmps81
     go_wp2_with fail
     go_at_call 98
     refine (CN.out _ hkB).mono ?_;rintro e w1 ⟨rfl,hk1⟩
     go_wp2
     go_ret
     exact ⟨rfl,hkB.trans hk1⟩
   | true =>
    rw[if_pos (by simp)]at hR;subst hR
    go_enter Tryz.func81,Tryz.ntmps81
    go_wp2
    go_ret
    exact ⟨rfl,(Kept.refl No w).alloc _⟩
  | true =>
   simp at hd
end Go.Proofs.YtkochkhfbhjicaaGreatDoor
