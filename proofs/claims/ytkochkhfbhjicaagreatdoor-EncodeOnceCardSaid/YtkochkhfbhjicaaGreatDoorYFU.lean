import Derived.Test.YtkochkhfbhjicaaGreatDoorYFT
import Derived.Test.YtkochkhfbhjicaaGreatDoorYFL
namespace Go.Proofs.YtkochkhfbhjicaaGreatDoor
open Go.RowKit
set_option linter.unusedVariables false
set_option linter.unusedSimpArgs false
set_option maxRecDepth 100000
structure Fine (m:Nat) (p:Pk):Prop where
 client:p.client.size≤m
 willTopic:p.willTopic.size≤m
 willLoad:p.willLoad.size≤m
 user:p.user.size≤m
 pass:p.pass.size≤m
 topic:p.topic.size≤m
 load:p.load.size≤m
 codes:p.codes.length≤m
 nf:p.filters.length≤10
 np:p.props.length≤10
 nw:p.willProps.length≤10
 tf:∀ f∈p.filters,f.opt<256∧f.text.size≤60
 tp:∀ x∈p.props,x.id<256∧x.n<4294967296∧x.a.size≤32∧x.b.size≤32
 tw:∀ x∈p.willProps,x.id<256∧x.n<4294967296∧x.a.size≤32∧x.b.size≤32
 qos:p.qos<256
 id:p.id<65536
 keep:p.keep<65536
 wq:p.willQoS<256
 code:p.code<256
theorem Fine.small {m:Nat} {p:Pk} (h:Fine m p) (hm:m≤60):Small p:=by
 have h1:=h.client;have h2:=h.willTopic;have h3:=h.willLoad;have h4:=h.user;have h5:=h.pass;have h6:=h.topic;have h7:=h.load;have h8:=h.codes;have h9:=h.nf;have h10:=h.np;have h11:=h.nw;exact ⟨by omega,by omega,by omega,by omega,λf hf=>by have:=(h.tf f hf).2;omega,λx hx=>⟨by have:=(h.tp x hx).2.2.1;omega,by have:=(h.tp x hx).2.2.2;omega⟩,λx hx=>⟨by have:=(h.tw x hx).2.2.1;omega,by have:=(h.tw x hx).2.2.2;omega⟩⟩
theorem Fine.mono {m n:Nat} {p:Pk} (h:Fine m p) (hm:m≤n):Fine n p :=
 ⟨Nat.le_trans h.client hm,Nat.le_trans h.willTopic hm,Nat.le_trans h.willLoad hm,Nat.le_trans h.user hm,Nat.le_trans h.pass hm,Nat.le_trans h.topic hm,Nat.le_trans h.load hm,Nat.le_trans h.codes hm,h.nf,h.np,h.nw,h.tf,h.tp,h.tw,h.qos,h.id,h.keep,h.wq,h.code⟩
theorem Fine.bare {m:Nat} {q:Pk} (h:Fine m q):Fine m (jP q):=by
 have e0:(0:Nat)≤m:=Nat.zero_le _;have es:∀ (b:Bool) (s:ByteArray),s.size≤m→(if b then s else ⟨#[]⟩:ByteArray).size≤m:=λb s hs=>by cases b;exact e0;exact hs
 have ez:(⟨#[]⟩:ByteArray).size≤m:=e0;have en:∀ (b:Bool) (k n:Nat),k<n→0<n→(if b then k else 0)<n:=λb k n hk hn=>by cases b;exact hn;exact hk
 have ew:∀ (b:Bool),(if b then q.willProps else []).length≤10:=λb=>by cases b;exact Nat.zero_le _;exact h.nw
 have ex:∀ (b:Bool),∀ x∈(if b then q.willProps else []),x.id<256∧x.n<4294967296∧x.a.size≤32∧x.b.size≤32:=λb=>by cases b;(intro x hx;cases hx);exact h.tw
 have en2:∀ {α:Type},([]:List α).length≤10:=fun {α}=>Nat.zero_le _
 have em:∀ {α:Type},([]:List α).length≤m:=fun {α}=>Nat.zero_le _
 unfold jP
 split
 ·exact ⟨h.client,es _ _ h.willTopic,es _ _ h.willLoad,es _ _ h.user,es _ _ h.pass,ez,ez,em,en2,h.np,ew _,(λf hf=>by cases hf),h.tp,ex _,(show 0<256 by decide),(show 0<65536 by decide),h.keep,en _ _ _ h.wq (by decide),(show 0<256 by decide)⟩
 all_goals (repeat' split)
 all_goals (refine ⟨?_,?_,?_,?_,?_,?_,?_,?_,?_,?_,?_,?_,?_,?_,?_,?_,?_,?_,?_⟩<;>first|exact ez|exact h.topic|exact h.load|exact em|exact h.codes|exact en2|exact h.nf|exact h.np|exact h.tf|exact h.tp|exact h.qos|exact h.id|exact h.code|exact (by decide:0<256)|exact (by decide:0<65536)|(intro x hx;cases hx))
end Go.Proofs.YtkochkhfbhjicaaGreatDoor
