import Derived.Test.YtnehnjklgglliaaGreatDoorYFS
import Derived.Test.YtnehnjklgglliaaGreatDoorYF4
namespace Go.Proofs.YtnehnjklgglliaaGreatDoor
open Go.RowKit
set_option linter.unusedVariables false
set_option linter.unusedSimpArgs false
set_option maxRecDepth 100000
theorem jCd {s:List UInt8} (hl:s.length≤100000) (h:(qd s 0).2=true):(∀ p∈(qd s 0).1,p.wf')∧(jEm [] (qd s 0).1).length+(qz s 0).length=s.length∧qu s 0=0:=by
 by_cases he:qu s 0=0
 case neg =>
  unfold qd at h;rw[if_neg he]at h;cases h
 by_cases hk:(qC (jx s 0)).2=true
 case neg =>
  unfold qd at h;rw[if_pos he,if_neg hk]at h;cases h
 have hR:qd s 0=(jZ (qC (jx s 0)).1,true):=by unfold qd;rw[if_pos he,if_pos hk]
 obtain ⟨e1,e2⟩:=j9d (jx s 0).length (jx s 0) (Nat.le_refl _) hk;obtain ⟨t1,t2⟩:=jI5 he;have hw:∀ p∈jZ (qC (jx s 0)).1,p.wf':=λp hp=>(e2 p (j3k.1 hp)).2.wf'
 have hok:∀ p∈jZ (qC (jx s 0)).1,p.ok=true:=λp hp=>(e2 p (j3k.1 hp)).1
 have hlen:(vO (jZ (qC (jx s 0)).1)).length=(jx s 0).length:=by
  rw[jA1,← e1]
 have hgo:=j77 (jZ (qC (jx s 0)).1) 0 hw hok (by omega);rw[Nat.zero_add]at hgo;rw[hR];refine ⟨hw,?_,he⟩
 have hp:jEm [] (jZ (qC (jx s 0)).1)=j1g (jx s 0).length++vO (jZ (qC (jx s 0)).1):=by
  unfold jEm;rw[hgo,hlen];simp[j1u]
 rw[hp,List.length_append,hlen]
 conv=>rhs;rw[t1]
 simp;omega
end Go.Proofs.YtnehnjklgglliaaGreatDoor
