import Derived.Test.YtkochkhfbhjicaaGreatDoorYFM
import Derived.Test.YtkochkhfbhjicaaGreatDoorYFE
import Derived.Test.YtkochkhfbhjicaaGreatDoorYFC
namespace Go.Proofs.YtkochkhfbhjicaaGreatDoor
open Go.RowKit
set_option linter.unusedVariables false
set_option linter.unusedSimpArgs false
set_option maxRecDepth 100000
def ts:Sl:=⟨none,0,none,0,none,0,none,0⟩
theorem jEv {x:Pr} (h:x.a.size≤300∧x.b.size≤300):x.size≤609:=by
 unfold Pr.size szP
 have:=xo x.n
 repeat' split
 all_goals omega
theorem jAa:∀ (L:List Pr) (m n:Nat),vL L m=some n→(∀ x∈L,x.a.size≤300∧x.b.size≤300)→n≤m+L.length*609:=by
 intro L
 induction L with
 | nil=>intro m n h _;simp[vL]at h;simp;omega
 | cons p L ih =>
  intro m n h hx;simp only[vL]at h;have h1:=jEv (hx p (List.mem_cons_self ..));simp only[List.length_cons]
  split at h
  ·split at h
   ·have:=ih _ _ h (λx hx'=>hx x (List.mem_cons_of_mem _ hx'));omega
   ·cases h
  ·cases h
theorem j6o {v:Int} {L:List Pr} (h:∀ x∈L,x.a.size≤300∧x.b.size≤300) (hl:L.length≤30):j14 v L≤18280:=by
 unfold j14 j6s
 split
 ·omega
 ·split
  ·rename_i n hn
   have h1:=jAa L 0 n hn h;have h4:=xo n;omega
  ·omega
theorem j1a (k:Int):∀ (L:List Fi),(∀ f∈L,f.text.size≤300)→qZ k L≤L.length*303
 | [],_=>by simp[qZ]
 | f :: L,h=>by
  have h1:=j1a k L (λg hg=>h g (List.mem_cons_of_mem _ hg));have h2:=h f (List.mem_cons_self ..);simp only[qZ,List.length_cons]
  split<;>omega
theorem jAk {v:Int} {p:Pk} (h:Small p):qD v p≤268435455:=by
 have h1:=j6o (v:=v) h.tp h.np;have h2:=j6o (v:=v) h.tw h.nw;have h3:=j1a p.kind p.filters h.tf;have h4:=h.nf;have h5:=h.sum;have h6:xm v p≤18281:=by unfold xm;(repeat' split)<;>omega
 have h7:qo v p≤100000:=by unfold qo;(repeat' split)<;>omega
 unfold qD
 repeat' split
 all_goals omega
theorem Small.few {p:Pk} (h:Small p):p.few:=⟨by have:=h.nw;omega,by have:=h.nf;omega,by have:=h.sum;omega,by have:=h.np;omega⟩
end Go.Proofs.YtkochkhfbhjicaaGreatDoor
