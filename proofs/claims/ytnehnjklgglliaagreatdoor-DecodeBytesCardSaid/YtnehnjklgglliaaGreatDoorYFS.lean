import Derived.Test.YtnehnjklgglliaaGreatDoorYF8
import Derived.Test.YtnehnjklgglliaaGreatDoorYF9
import Derived.Test.YtnehnjklgglliaaGreatDoorYFJ
namespace Go.Proofs.YtnehnjklgglliaaGreatDoor
open Go.RowKit
set_option linter.unusedVariables false
set_option linter.unusedSimpArgs false
set_option maxRecDepth 100000
def jIh (R:List Pr × Bool) (l2:List UInt8) (e2:Int) (B:ByteArray) (w:World) (r:Nat) (e:Ending) (w':World):Prop :=
 ∃ a c,e=.returned (.tuple #[.slice a R.1.length c,.bool R.2])∧Row w' a (PC R.1)∧(a=none→R.1.length=0∧c=0)∧xz w w' r B l2 e2
theorem j1e (l:List UInt8) (e:Int):(jx l e).length≤l.length:=by
 have h1:=(j26 4 0 0 l e).length_le;unfold jx jL
 split
 ·rw[List.length_take];omega
 ·simp
set_option maxHeartbeats 4000000 in
theorem jC1 (w:World) (r:Nat) (B:ByteArray) (l:List UInt8) (err:Int) (h:RefR w r B l err) (hl:l.length≤100000) :
  Calls Tryz.prog 60 #[.pointer (some ⟨r,0,none⟩)] w (jIh (qd l err) (qz l err) (qu l err) B w r):=by
 have hv32:(rv 4 0 0 l err).1<4294967296:=by have:=j7k 4 0 0 l err (by decide);omega
 have hsl:=j1e l err;have HV:=Lib.hid (j25 w r B l err h);have HS:=Lib.hid (λwx (hx:RefR wx r B (rv 4 0 0 l err).2.1 (rv 4 0 0 l err).2.2)=>jBo wx r B _ _ (rv 4 0 0 l err).1 hx);have hTS:jx l err=jL (rv 4 0 0 l err).1 (rv 4 0 0 l err).2.1 (rv 4 0 0 l err).2.2:=rfl;have hTL:qz l err=jX (rv 4 0 0 l err).1 (rv 4 0 0 l err).2.1 (rv 4 0 0 l err).2.2:=rfl;have hTE:qu l err=jT (rv 4 0 0 l err).1 (rv 4 0 0 l err).2.1 (rv 4 0 0 l err).2.2:=rfl;rw[← hTS,← hTL,← hTE]at HS;clear hTS hTL hTE;generalize hR:qd l err=R;unfold qd at hR;generalize jx l err=sec at *;generalize qz l err=l2 at *;generalize qu l err=e2 at *;generalize rv 4 0 0 l err=VV at *;obtain ⟨n,l1,e1⟩:=VV;dsimp only at HS hv32;unfold jCl at HV;dsimp only at HV;have HR:=Lib.hid hR;clear hR h;have hnI:(n:Int)<4294967296:=by omega
 go_enter Tryz.func60,Tryz.ntmps60
 go_wp2_with fail
 go_at_call 56
 refine HV.out.mono ?_;rintro e w1 ⟨rfl,ha1⟩
 go_wp2_with fail
 go_at_call 96
 refine (HS.out w1 ha1.rdr).mono ?_;rintro e w2 ⟨s,B',rfl,hs,hrs,ha2⟩;obtain ⟨at_,q0,q1,q2⟩:=ha2.rdr.cells;have hk2:Kept (One r) w w2:=ha1.kept.trans ha2.kept;have hz1:=ha1.kept.size;have hrlt:=ha1.rdr.lt
 by_cases he:e2=0
 case neg =>
  have heN:(e2 != 0)=true:=by simpa using he
  have HR0:Hid (R=([],false)):=Lib.hid (by rw[← HR.out,if_neg he]);have heE:(e2 == 0)=false:=by simpa using he
  clear he
  go_wp2
  go_ret2
  exact ⟨none,0,by rw[HR0.out];rfl,by rw[HR0.out];exact .nil _ _,λ_=>by rw[HR0.out];exact ⟨rfl,rfl⟩,ha2.rdr,hk2⟩
 subst he;rw[if_pos rfl]at HR;have HRS:=Lib.hid (j3u w2 s B' sec 0 hrs);have HEA:=Lib.hid (λwx=>jEp wx ⟨sec.toArray⟩ (by rw[vo];omega));have hne:s≠r:=by omega
 unfold j7t at HEA;dsimp only at HEA;have hell:=j0t sec.length sec;have hel:(qC sec).1.length≤sec.length:=hell;generalize hE:qC sec=E at *;obtain ⟨L,ok⟩:=E;dsimp only at HR HEA hel;clear hE hell;cases ok with
 | false =>
  have HR0:Hid (R=([],false)):=Lib.hid (by rw[← HR.out];rfl);clear HR
  go_wp2_with (first
   | (go_at_call 26;refine HRS.out.mono ?_;rintro e w3 ⟨rfl,ha3⟩)
   | (go_at_call 97;refine (HEA.out _).mono ?_;rintro e w4 ⟨a4,c4,rfl,hown4,hk4⟩))
  go_ret2
  have hk3:Kept No w2 w4→True:=λ_=>trivial
  refine ⟨none,0,by rw[HR0.out];rfl,by rw[HR0.out];exact .nil _ _,λ_=>by rw[HR0.out];exact ⟨rfl,rfl⟩,(ha2.rdr.kept ha3.kept (λe=>hne e.symm)).kept hk4 (λf=>f),?_⟩;exact (hk2.then ha3.kept (λi hi e=>by have:i=s:=e;omega)).trans hk4.any
 | true =>
  have HR0:Hid (R=(jZ L,true)):=Lib.hid (by rw[← HR.out];rfl);clear HR
  go_wp2_with fail
  go_at_call 26
  refine HRS.out.mono ?_;rintro e w3 ⟨rfl,ha3⟩
  go_wp2_with fail
  go_at_call 97
  refine (HEA.out _).mono ?_;rintro e w4 ⟨a4,c4,rfl,hown4,hk4⟩;obtain ⟨hr4,hn4⟩:=qi hown4
  go_wp2_with fail
  go_at_call 98
  refine (jEt a4 c4 L w4 hr4 hn4 (by omega)).mono ?_;rintro e w5 ⟨a5,c5,rfl,hown5,hk5⟩;obtain ⟨hr5,hn5⟩:=qi hown5
  go_wp2
  go_ret2
  refine ⟨a5,c5,by rw[HR0.out];first|rfl|simp[ji],by rw[HR0.out];exact hr5,by rw[HR0.out];exact hn5,((ha2.rdr.kept ha3.kept (λe=>hne e.symm)).kept hk4 (λf=>f)).kept hk5 (λf=>f),?_⟩;exact ((hk2.then ha3.kept (λi hi e=>by have:i=s:=e;omega)).trans hk4.any).trans hk5.any
end Go.Proofs.YtnehnjklgglliaaGreatDoor
