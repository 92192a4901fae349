import Derived.Test.YtkochkhfbhjicaaGreatDoorYFB
import Derived.Test.YtkochkhfbhjicaaGreatDoorYF3
import Derived.Deep.RegionHeld3
namespace Go.Proofs.YtkochkhfbhjicaaGreatDoor
open Go.RowKit
set_option linter.unusedVariables false
set_option linter.unusedSimpArgs false
set_option maxRecDepth 100000
def jm:Array Value:=#[.int .i64 0,.bool false,.bool false,.int .u8 0,.int .u16 0,.bool false,.int .u16 0,.string ⟨#[]⟩,.bool false,.bool false,.bool false,.int .u8 0,.bool false,.slice none 0 0,.string ⟨#[]⟩,.string ⟨#[]⟩,.string ⟨#[]⟩,.string ⟨#[]⟩,.bool false,.int .u8 0,.string ⟨#[]⟩,.string ⟨#[]⟩,.slice none 0 0,.slice none 0 0,.slice none 0 0]
theorem vM (w:World) (base g:Nat) (a:Option Addr) (c:Nat) (l:List UInt8) (hown:w.ownsRow base 5 1 (.slice (some ⟨g,0,none⟩) 0 0) 0 []) (hr:Row w a (B8 l)) (hn:a=none→l.length=0∧c=0) (hl:l.length≤140737488355328) (hb:base≤w.heap.size) :
  ∃ v' w',(Builtin.append_ #[25,25] 25 #[.slice (some ⟨g,0,none⟩) 0 0,.slice a l.length c]).run Tryz.prog w=.ok v' w'∧w'.ownsRow base 5 1 v' l.length (B8 l)∧w.grownBy w' (some g)∧(v'=.slice none 0 0↔False):=by
 obtain ⟨i0,hi,hz0,hz1,hz2⟩:=info_parts qe;cases a with
 | some ad =>
  obtain ⟨v',w',h1,h2,h3,h4⟩:=run_append_own (P:=Tryz.prog) w base 25 25 5 i0 _ 1 1 Tryz.underlying25 hi hz0 hz1 hz2 rfl (by decide) _ _ _ hown ad l.length c (B8 l) (by simp) (hr.at_add ad rfl) (vW l) (by unfold maxLen;omega) (by omega) hb;exact ⟨v',w',h1,by simpa using h2,h3,by simp[h4]⟩
 | none =>
  obtain ⟨h0,rfl⟩:=hn rfl;have hl0:l=[]:=List.length_eq_zero_iff.1 h0;subst hl0;exact ⟨_,w,run_append_owned_none (P:=Tryz.prog) (w:=w) base 25 25 5 i0 1 Tryz.underlying25 hi _ _ _ hown,hown,World.grownBy.refl w _,by simp⟩
theorem jJl {w w':World} {B size n g:Nat} {e t:TypeId} {v:Value} {xs:List Value} {c:Array Value} (h:w.ownsRow B e size v n xs) (hb:Blk w g t c) (ht:t≠e) (hk:Kept (One g) w w'):w'.ownsRow B e size v n xs:=by
 refine ⟨h.1,?_⟩;rcases h.2 with h2|⟨g',cap,cur,q1,q2,q3,q4⟩
 ·exact .inl h2
 ·refine .inr ⟨g',cap,cur,q1,q2,(hk.block g' (Array.getElem?_eq_some_iff.1 q3).1 (λhm=>?_)).trans q3,q4⟩
  have hm':g'=g:=hm;subst hm';unfold Blk at hb;rw[hb]at q3;injection q3 with q3;injection q3 with _ q3 _;exact ht q3
theorem jD6 {w w':World} {S:Nat→Prop} {B size n:Nat} {e:TypeId} {v:Value} {xs:List Value} (h:w.ownsRow B e size v n xs) (hk:Kept S w w') (hS:∀ g cur,S g→w.heap[g]?=some (.cells cur e (0,0))→False):w'.ownsRow B e size v n xs:=by
 refine ⟨h.1,?_⟩;rcases h.2 with h2|⟨g',cap,cur,q1,q2,q3,q4⟩
 ·exact .inl h2
 ·exact .inr ⟨g',cap,cur,q1,q2,(hk.block g' (Array.getElem?_eq_some_iff.1 q3).1 (λhm=>hS g' cur hm q3)).trans q3,q4⟩
theorem zh {w:World} {B size n g:Nat} {e:TypeId} {v:Value} {xs:List Value} (h:w.ownsRow B e size v n xs) (hv:v.ownBlock=some g):∃ cur,Blk w g e cur:=by
 rcases h.2 with ⟨h',_⟩|⟨g',cap',cur,rfl,q2,q3,q4⟩
 ·subst h';cases hv
 ·injection hv with hv
  have hv':g'=g:=hv;subst hv';exact ⟨cur,q3⟩
theorem j7o:(Tryz.prog.info? 63).map (λi=>(i.zero,i.size,i.bytes))=some (some (.agg #[.string ⟨#[]⟩,.int .u8 0]),2,24):=by kernel_rfl
structure ToB (base:Nat) (p:Pk) (zb:Nat) (s:Sl) (w:World):Prop where
 blk:Blk w zb 36 ({p with filters:=[]}.cells s)
 sf:s.fa=none∧s.fc=0
 ow:w.ownsRow base 82 4 (.slice s.wa p.willProps.length s.wc) p.willProps.length (PC p.willProps)
 op:w.ownsRow base 82 4 (.slice s.pa p.props.length s.pc) p.props.length (PC p.props)
 oc:w.ownsRow base 5 1 (.slice s.ca p.codes.length s.cc) p.codes.length (B8 p.codes)
structure Small (p:Pk):Prop where
 sum:p.client.size+p.willTopic.size+p.willLoad.size+p.user.size+p.pass.size+p.topic.size+p.load.size+p.codes.length≤3000
 nf:p.filters.length≤30
 np:p.props.length≤30
 nw:p.willProps.length≤30
 tf:∀ f∈p.filters,f.text.size≤300
 tp:∀ x∈p.props,x.a.size≤300∧x.b.size≤300
 tw:∀ x∈p.willProps,x.a.size≤300∧x.b.size≤300
structure Reach (p:Pk):Prop where
 client:p.client.size≤140737488351232
 willTopic:p.willTopic.size≤140737488351232
 willLoad:p.willLoad.size≤140737488351232
 user:p.user.size≤140737488351232
 pass:p.pass.size≤140737488351232
 topic:p.topic.size≤140737488351232
 load:p.load.size≤140737488351232
 nw:p.willProps.length≤140737488351232
 nf:p.filters.length≤140737488351232
 nc:p.codes.length≤140737488351232
 np:p.props.length≤140737488351232
 tf:∀ f∈p.filters,f.text.size≤140737488351232
 tp:∀ x∈p.props,x.a.size≤140737488351232∧x.b.size≤140737488351232
 tw:∀ x∈p.willProps,x.a.size≤140737488351232∧x.b.size≤140737488351232
end Go.Proofs.YtkochkhfbhjicaaGreatDoor
