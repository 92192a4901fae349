import Derived.Test.YtkochkhfbhjicaaGreatDoorYF5
import Derived.Laws.Shifts
import Derived.Deep.CutRange
namespace Go.Proofs.YtkochkhfbhjicaaGreatDoor
open Go.RowKit
set_option linter.unusedVariables false
set_option linter.unusedSimpArgs false
set_option maxRecDepth 100000
theorem jOf {P U V S:List Pr} {i:Nat} (h1:P.length≤i) (h2:i<P.length+U.length):(P++(U++(V++S)))[i]! = U[i - P.length]!:=by
 have:=jCw P U (V++S) (i - P.length) (by omega)
 rwa [show P.length+(i - P.length)=i by omega]at this
theorem jOg {P U V S:List Pr} {i:Nat} (h1:P.length+U.length≤i) (h2:i<P.length+U.length+V.length):(P++(U++(V++S)))[i]! = V[i - (P.length+U.length)]!:=by
 have:=jCw (P++U) V S (i - (P.length+U.length)) (by omega)
 rw[show (P++U).length+(i - (P.length+U.length))=i by simp;omega]at this;simpa using this
structure SM (N:Nat) (P U V S:List Pr) (a m b:Nat):Prop where
 hN:N=P.length+U.length+V.length+S.length
 ha:a=P.length
 hm:m=P.length+U.length
 hb:b=P.length+U.length+V.length
 hU:0<U.length
 hV:0<V.length
 sU:Srt U
 sV:Srt V
theorem SM.len {N a m b:Nat} {P U V S:List Pr} (h:SM N P U V S a m b):N=(P++(U++(V++S))).length:=by have:=h.hN;simp;omega
theorem SM.getU {N a m b:Nat} {P U V S:List Pr} (h:SM N P U V S a m b) {i:Nat} (h1:a≤i) (h2:i<m):(P++(U++(V++S)))[i]! = U[i - a]!:=by
 have:=h.ha;have:=h.hm
 rw[jOf (by omega) (by omega),h.ha]
theorem SM.getV {N a m b:Nat} {P U V S:List Pr} (h:SM N P U V S a m b) {i:Nat} (h1:m≤i) (h2:i<b):(P++(U++(V++S)))[i]! = V[i - m]!:=by
 have:=h.hb;have:=h.hm
 rw[jOg (by omega) (by omega),h.hm]
theorem SM.cut {N a m b:Nat} {P U V S:List Pr} (h:SM N P U V S a m b) {mid n s0 r0 p s:Nat} (hmid:mid=(a+b) / 2) (hn:n=mid+m) (hp:p+1=n)
  (h0:(mid<m∧s0+b=n∧r0=mid)∨(m≤mid∧s0=a∧r0=m)) (hs:s0≤s) (hr:s≤r0)
  (hl:s=s0∨¬ (P++(U++(V++S)))[p - (s - 1)]!.id<(P++(U++(V++S)))[s - 1]!.id) (hg:s=r0∨(P++(U++(V++S)))[p - s]!.id<(P++(U++(V++S)))[s]!.id) :
  ∃ U1 U2 V1 V2,U=U1++U2∧V=V1++V2∧s=a+U1.length∧m=s+U2.length∧n - s=m+V1.length∧b=(n - s)+V2.length∧mid=s+V1.length∧n - s=mid+U2.length ∧
   jX (U++V)=jX (U1++V1)++jX (U2++V2):=by
 have e1:=h.ha;have e2:=h.hm;have e3:=h.hb;have e4:U.length=m - a:=by omega
 have e5:V.length=b - m:=by omega
 have hU:=h.hU;have hV:=h.hV;have b1:a≤s∧s≤m∧m+s≤n∧n≤b+s:=by omega
 refine ⟨U.take (s - a),U.drop (s - a),V.take (n - s - m),V.drop (n - s - m),(List.take_append_drop _ _).symm,(List.take_append_drop _ _).symm,?_,?_,?_,?_,?_,?_,?_⟩
 ·rw[List.length_take];omega
 ·rw[List.length_drop];omega
 ·rw[List.length_take];omega
 ·rw[List.length_drop];omega
 ·rw[List.length_take];omega
 ·rw[List.length_drop];omega
 ·have hUs:Srt (U.take (s - a)++U.drop (s - a)):=by rw[List.take_append_drop];exact h.sU
  have hVs:Srt (V.take (n - s - m)++V.drop (n - s - m)):=by rw[List.take_append_drop];exact h.sV
  have:=j48 hUs hVs (jGy h.sU h.sV (by omega) (by
   by_cases q1:s - a=0
   ·exact .inl q1
   by_cases q2:n - s - m=V.length
   ·exact .inr (.inl q2)
   refine .inr (.inr ?_);rcases hl with hl|hl
   ·omega
   ·rw[h.getV (by omega) (by omega),h.getU (by omega) (by omega)]at hl
    rw[show s - a - 1=s - 1 - a by omega,show n - s - m=p - (s - 1) - m by omega];omega)) (jGz h.sU h.sV (by omega) (by
   by_cases q1:n - s - m=0
   ·exact .inl q1
   by_cases q2:s - a=U.length
   ·exact .inr (.inl q2)
   refine .inr (.inr ?_);rcases hg with hg|hg
   ·omega
   ·rw[h.getV (by omega) (by omega),h.getU (by omega) (by omega)]at hg
    rw[show n - s - m - 1=p - s - m by omega];exact hg))
  rw[List.take_append_drop,List.take_append_drop]at this;exact this
end Go.Proofs.YtkochkhfbhjicaaGreatDoor
