import Derived.Test.YtdeecgmihfakgaaGreatDoorYFS
import Derived.Test.YtdeecgmihfakgaaGreatDoorYF4
namespace Go.Proofs.YtdeecgmihfakgaaGreatDoor
open Go.RowKit
set_option linter.unusedVariables false
set_option linter.unusedSimpArgs false
set_option maxRecDepth 100000
theorem take_canon {s:List UInt8} (hl:s.length≤100000) (h:(takeR s 0).2=true):(∀ p∈(takeR s 0).1,p.wf')∧(putL [] (takeR s 0).1).length+(takeLeft s 0).length=s.length∧takeErr s 0=0:=by
 by_cases he:takeErr s 0=0
 case neg =>
  unfold takeR at h;rw[if_neg he]at h;cases h
 by_cases hk:(eachL (takeSec s 0)).2=true
 case neg =>
  unfold takeR at h;rw[if_pos he,if_neg hk]at h;cases h
 have hR:takeR s 0=(sortL (eachL (takeSec s 0)).1,true):=by unfold takeR;rw[if_pos he,if_pos hk]
 obtain ⟨e1,e2⟩:=each_inv (takeSec s 0).length (takeSec s 0) (Nat.le_refl _) hk;obtain ⟨t1,t2⟩:=take_inv he;have hw:∀ p∈sortL (eachL (takeSec s 0)).1,p.wf':=fun p hp=>(e2 p (sortL_mem.1 hp)).2.wf'
 have hok:∀ p∈sortL (eachL (takeSec s 0)).1,p.ok=true:=fun p hp=>(e2 p (sortL_mem.1 hp)).1
 have hlen:(layAll (sortL (eachL (takeSec s 0)).1)).length=(takeSec s 0).length:=by
  rw[layAll_sort,← e1]
 have hgo:=lenGo_all (sortL (eachL (takeSec s 0)).1) 0 hw hok (by omega);rw[Nat.zero_add]at hgo;rw[hR];refine ⟨hw,?_,he⟩
 have hp:putL [] (sortL (eachL (takeSec s 0)).1)=varL (takeSec s 0).length++layAll (sortL (eachL (takeSec s 0)).1):=by
  unfold putL;rw[hgo,hlen];simp[addVar]
 rw[hp,List.length_append,hlen]
 conv=>rhs;rw[t1]
 simp;omega
end Go.Proofs.YtdeecgmihfakgaaGreatDoor
