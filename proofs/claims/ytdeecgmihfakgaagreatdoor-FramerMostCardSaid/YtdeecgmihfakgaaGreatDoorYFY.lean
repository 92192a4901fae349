import Derived.Test.YtdeecgmihfakgaaGreatDoorYFK
import Derived.Test.YtdeecgmihfakgaaGreatDoorYFL
import Derived.Test.YtdeecgmihfakgaaGreatDoorYFE
import Derived.Test.YtdeecgmihfakgaaGreatDoorYFV
import Derived.Test.YtdeecgmihfakgaaGreatDoorYFG
import Derived.Test.YtdeecgmihfakgaaGreatDoorYF3
namespace Go.Proofs.YtdeecgmihfakgaaGreatDoor
open Go.RowKit
set_option linter.unusedVariables false
set_option linter.unusedSimpArgs false
set_option maxRecDepth 100000
theorem IsPk.at {w:World} {p:Pk} {s:Sl} (h:IsPk w p s):p.At s w:=⟨h.hw.hrow,h.hf.hrow,h.hc.hrow,h.hp.hrow⟩
theorem IsPk.fit {w:World} {p:Pk} {s:Sl} (h:IsPk w p s) (r:Reach p) (f:Small p):Fit p:=⟨f.few,⟨fun x hx=>⟨(h.hw.hwf x hx).1,(h.hw.hwf x hx).2.1,by have:=(f.tw x hx).1;omega,by have:=(f.tw x hx).2;omega⟩,fun x hx=>⟨(h.hp.hwf x hx).1,(h.hp.hwf x hx).2.1,by have:=(f.tp x hx).1;omega,by have:=(f.tp x hx).2;omega⟩⟩,r,h.hqos,h.hid,h.hkeep,h.hwillQoS,h.hcode,fun f hf=>(h.hf.hwf f hf).2⟩
theorem hb_three {P:Program} {ops:Array Oper} {Q:Exit→Act→World→Prop} {a:Act} {w:World} {md:Region.Mode} {S:World→Prop} {fuel:Nat} {listed:Array Bool} {i j k:Nat} (hr:Region.ready md ops listed=[i,j,k]) (h1:wpOp P ops Q i (fun a' w'=>S w'∧wpAnyH P md ops Q S fuel (listed.setIfInBounds i true) a' w') a w)
  (h2:wpOp P ops Q j (fun a' w'=>S w'∧wpAnyH P md ops Q S fuel (listed.setIfInBounds j true) a' w') a w) (h3:wpOp P ops Q k (fun a' w'=>S w'∧wpAnyH P md ops Q S fuel (listed.setIfInBounds k true) a' w') a w):wpAnyH P md ops Q S (fuel+1) listed a w:=by
 refine wpAnyH_all hr (by simp) fun x hx=>?_
 simp only[List.mem_cons,List.mem_nil_iff,or_false]at hx;rcases hx with rfl|rfl|rfl
 ·exact h1
 ·exact h2
 ·exact h3
theorem own_madeJ {w w0:World} {M:List Bk} {b m k j:Nat} {e:TypeId} {c:Array Value} (H:Hp w0 w M) (hj:M[j]?=some ⟨b,e,c⟩) (hc:c.size=m * k) (hm:m≤maxLen):w.ownsRow w0.heap.size e k (.slice (some ⟨b,0,none⟩) m m) m c.toList:=by
 have hb:=H.b.at_ hj;refine ⟨by simpa using hc,.inr ⟨b,m,c,rfl,hb.2,hb.1,Nat.le_refl _,hm,hc,?_⟩⟩;rw[List.take_of_length_le (by simp[hc])]
theorem Hps.del {w0 w:World}:∀ (M1:List Bk) {M2:List Bk} {x:Bk},Hps w0 w (M1++x :: M2)→Hps w0 w (M1++M2)
 | [],_,_,h=>h.2.2.2
 | y :: M1,M2,x,h=>⟨h.1,h.2.1,fun z hz=>h.2.2.1 z (by rcases List.mem_append.1 hz with q|q;exact List.mem_append.2 (.inl q);exact List.mem_append.2 (.inr (List.mem_cons_of_mem _ q))),Hps.del M1 h.2.2.2⟩
theorem Hp.del {w0 w:World} (M1:List Bk) {M2:List Bk} {x:Bk} (H:Hp w0 w (M1++x :: M2)):Hp w0 w (M1++M2):=⟨H.k,Hps.del M1 H.b⟩
theorem take_fi {L:List Fi} {j:Nat} (h:j < L.length):L.take (j+1)=L.take j++[L[j]]:=List.take_succ_eq_append_getElem h
end Go.Proofs.YtdeecgmihfakgaaGreatDoor
