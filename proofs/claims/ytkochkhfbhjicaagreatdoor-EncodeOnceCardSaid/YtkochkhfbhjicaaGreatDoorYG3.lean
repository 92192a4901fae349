import Derived.Test.YtkochkhfbhjicaaGreatDoorYG1
import Derived.Test.YtkochkhfbhjicaaGreatDoorYG2
import Derived.Test.YtkochkhfbhjicaaGreatDoorYFT
import Derived.Test.YtkochkhfbhjicaaGreatDoorYFK
import Derived.Lib.SlBytesConst
namespace Go.Proofs.YtkochkhfbhjicaaGreatDoor
open Go.RowKit
set_option linter.unusedVariables false
set_option linter.unusedSimpArgs false
set_option maxRecDepth 100000
namespace Ts
end Ts
structure Lok (L:List Pr):Prop where
 n:L.length≤100000
 w:∀ x∈L,x.wf'∧x.a.size≤9223372036854∧x.b.size≤9223372036854
 s:j6s L≤100001
structure Ok9 (p:Pk):Prop where
 client:p.client.size≤100000
 willTopic:p.willTopic.size≤100000
 willLoad:p.willLoad.size≤100000
 user:p.user.size≤100000
 pass:p.pass.size≤100000
 topic:p.topic.size≤100000
 load:p.load.size≤100000
 nf:p.filters.length≤100000
 nc:p.codes.length≤100000
 props:Lok p.props
 wprops:Lok p.willProps
 tf:∀ f∈p.filters,f.opt<256∧f.text.size≤100000
 qos:p.qos<256
 id:p.id<65536
 keep:p.keep<65536
 wq:p.willQoS<256
 code:p.code<256
section
variable {p:Pk}
end
theorem jI0 (l:List UInt8) (n:Nat):B8 (l.take n)=(B8 l).take n:=by simp[B8,List.map_take]
theorem jHz (l:List UInt8) (n:Nat):B8 (l.drop n)=(B8 l).drop n:=by simp[B8,List.map_drop]
theorem sz8 (w:World):(Go.sizeOf (Tryz.prog.elem 25)).run Tryz.prog w=.ok 1 w:=by
 have e:Tryz.prog.elem 25=5:=by simp[Program.elem,Tryz.underlying25]
 rw[e];exact j7n w
theorem jKa:Tryz.prog.underlying 25=some (.slice (Tryz.prog.elem 25)):=by
 have e:Tryz.prog.elem 25=5:=by simp[Program.elem,Tryz.underlying25]
 rw[e];exact Tryz.underlying25
theorem jC5 {w:World} {a:Option Addr} {l:List UInt8} {c:Nat} (hr:Row w a (B8 l)) (hn:a=none→l.length=0∧c=0) (hc:l.length≤c) (n:Nat):∃ a5 c5,(Instr.sliceAt 25 (.slice a l.length c) none (some (.int .i64 ((min l.length n:Nat):Int))) none).run Tryz.prog w=.ok (.slice a5 (l.take n).length c5) w∧Row w a5 (B8 (l.take n))∧(a5=none→(l.take n).length=0∧c5=0)∧(l.take n).length≤c5:=by
 refine ⟨(if c=0 then a else a.map (·.add 0)),c,?_,?_,?_,by rw[List.length_take];omega⟩
 ·rw[run_sliceAt_slice _ _ _ _ _ _ jKa,run_slice_h _ _ _ _ _ jKa .i64 _ (by omega) (by omega),sz8]
  simp only[Result.andThen,sliced,Int.toNat_natCast,List.length_take,Nat.zero_mul,Nat.sub_zero];rw[Nat.min_comm]
 ·have h:=(hr.take n).drop (k:=0) (cap:=c) (by simp[B8,List.length_take];omega)
  rw[jI0];simpa using h
 ·intro e
  have:a=none:=by
   revert e
   split
   ·exact id
   ·cases a<;>simp
  have:=hn this
  rw[List.length_take];omega
theorem jC4 {w:World} {a:Option Addr} {l:List UInt8} {c:Nat} (hr:Row w a (B8 l)) (hn:a=none→l.length=0∧c=0) (hc:l.length≤c) (k:Nat) (hk:k≤l.length):∃ a5 c5,(Instr.sliceAt 25 (.slice a l.length c) (some (.int .i64 (k:Int))) none none).run Tryz.prog w=.ok (.slice a5 (l.drop k).length c5) w∧Row w a5 (B8 (l.drop k))∧(a5=none→(l.drop k).length=0∧c5=0):=by
 refine ⟨(if c=k then a else a.map (·.add k)),c - k,?_,?_,?_⟩
 ·rw[run_sliceAt_slice _ _ _ _ _ _ jKa,run_slice_l _ _ _ _ _ jKa .i64 _ (by omega) (by omega),sz8]
  simp only[Result.andThen,sliced,Int.toNat_natCast,List.length_drop,Nat.mul_one]
 ·have h:=hr.drop (k:=k) (cap:=c) (by simp[B8];omega)
  rw[jHz];exact h
 ·intro e
  have:a=none:=by
   revert e
   split
   ·exact id
   ·cases a<;>simp
  have:=hn this
  rw[List.length_drop];omega
theorem jLt {v:Int} {l:List UInt8} {hd:Hd} {K:Pk × Ts} (he:j12 l=hd) (h0:j21 l=0∧(l.length:Int)=hd.head+(hd.rest:Int)∧j5v v hd=true) (hK:j2k v hd.kind hd.flags ⟨l.drop hd.head.toNat,0,false⟩=K) (h:((!K.2.ok)||(!decide (K.2.l.length=0)))=false):j3j v l=true∧j7m v l=K.1:=by
 have h1:(K.2.ok&&decide (K.2.l.length=0))=true:=by
  revert h;cases K.2.ok<;>simp
 have h2:j3j v l=true:=by
  unfold j3j jA1;rw[he,hK,h1,decide_eq_true h0.1,decide_eq_true h0.2.1,h0.2.2]
  rfl
 refine ⟨h2,?_⟩;unfold j7m;rw[if_pos h2];unfold jA1;rw[he,hK]
section
variable {v:Int} {l:List UInt8}
theorem or9 (h:(!(decide (v=4)||decide (v=5)))=false):v=4∨v=5:=by
 by_cases h4:v=4
 ·exact .inl h4
 ·by_cases h5:v=5
  ·exact .inr h5
  ·rw[decide_eq_false h4,decide_eq_false h5]at h;cases h
theorem jLi (h:(!(decide (v=4)||decide (v=5)))=false) (h2:(!j3j v l)=false) (h3:(!qj v (j7m v l))=false):jI6 v l=0∧jN4 v l=j7m v l:=by
 have h1:v=4∨v=5:=or9 h;have e:jI6 v l=0:=(if_pos h1).trans ((if_pos (by simpa using h2)).trans (if_pos (by simpa using h3)));exact ⟨e,if_pos e⟩
end
structure Aw (B:Nat) (P:Pk) (s:Sl) (W:World):Prop where
 at_:P.At s W
 sc:s.ca=none→P.codes.length=0∧s.cc=0
 lo:∀ b off,(s.fa=some ⟨b,off,none⟩→P.filters≠[]→B≤b)∧(s.ca=some ⟨b,off,none⟩→P.codes≠[]→B≤b)
theorem Aw.zero (B:Nat) (W:World):Aw B (zk 0) ts W:=⟨⟨.nil _ _,.nil _ _,.nil _ _,.nil _ _⟩,λ_=>⟨rfl,rfl⟩,λb off=>⟨λ_ h=>absurd rfl h,λ_ h=>absurd rfl h⟩⟩
theorem Aw.fin {B B0 b:Nat} {P:Pk} {s:Sl} {w9 W':World} {ty:TypeId} {c:Array Value} (h:Aw B P s w9) (hk:Kept (One b) w9 W') (hb:Blk w9 b ty c) (hn:NoU c) (hlt:b<B) (hB:B0≤B):Aw B0 P s W':=by
 refine ⟨⟨h.at_.hw.propK hk (jOy hb hn),h.at_.hf.kept hk λb' off e hne hS=>?_,h.at_.hc.kept hk λb' off e hne hS=>?_,h.at_.hp.propK hk (jOy hb hn)⟩,h.sc,λb off=>⟨λe hn=>Nat.le_trans hB ((h.lo b off).1 e hn),λe hn=>Nat.le_trans hB ((h.lo b off).2 e hn)⟩⟩
 ·have e2:b'=b:=hS
  have:=(h.lo b' off).1 e (λhe=>hne (by rw[he];rfl))
  omega
 ·have e2:b'=b:=hS
  have:=(h.lo b' off).2 e (λhe=>hne (by rw[he];rfl))
  omega
end Go.Proofs.YtkochkhfbhjicaaGreatDoor
namespace Go.Proofs.YtkochkhfbhjicaaGreatDoor
open Go.RowKit
set_option linter.unusedVariables false
set_option linter.unusedSimpArgs false
set_option maxRecDepth 100000
theorem jOp {v:Int} {h:Hd} (h9:(((!(decide (v=4)||decide (v=5)))||decide (h.kind=0))||(decide (v=4)&&decide (h.kind=15)))=false):j5v v h=if h.kind=3 then true else if h.kind=6∨h.kind=8∨h.kind=10 then decide (h.flags=2) else decide (h.flags=0):=by
 unfold j5v;rw[if_neg (by rw[← Bool.or_assoc,h9];decide)]
open Go.RowKit
set_option linter.unusedVariables false
set_option linter.unusedSimpArgs false
set_option maxRecDepth 100000
open Go.RowKit
set_option linter.unusedVariables false
set_option linter.unusedSimpArgs false
set_option maxRecDepth 100000
end Go.Proofs.YtkochkhfbhjicaaGreatDoor
