import Derived.Test.YtohmcfmcbibbcaaGreatDoorYF8
import Derived.Test.YtohmcfmcbibbcaaGreatDoorYF9
import Derived.Test.YtohmcfmcbibbcaaGreatDoorYFR
namespace Go.Proofs.YtohmcfmcbibbcaaGreatDoor
open Go.RowKit
set_option linter.unusedVariables false
set_option linter.unusedSimpArgs false
set_option maxRecDepth 100000
def RTakeOwn (R:List Pr × Bool) (l2:List UInt8) (e2:Int) (B:ByteArray) (w:World) (r:Nat) (e:Ending) (w':World):Prop :=
 ∃ a c,e=.returned (.tuple #[.slice a R.1.length c,.bool R.2])∧w'.ownsRow w.heap.size 123 4 (.slice a R.1.length c) R.1.length (PC R.1)∧RAfter w w' r B l2 e2
theorem takeSec_len (l:List UInt8) (e:Int):(takeSec l e).length≤l.length:=by
 have h1:=(rv_suf 4 0 0 l e).length_le;unfold takeSec taken
 split
 ·rw[List.length_take];omega
 ·simp
set_option maxHeartbeats 4000000 in
theorem rtake6_own (w:World) (r:Nat) (B:ByteArray) (l:List UInt8) (err:Int) (h:RefR w r B l err) (hl:l.length≤100000) :
  Calls Tryz.prog 159 #[.pointer (some ⟨r,0,none⟩)] w (RTakeOwn (takeR l err) (takeLeft l err) (takeErr l err) B w r):=by
 have hv32:(rv 4 0 0 l err).1 < 4294967296:=by have:=rv_lt 4 0 0 l err (by decide);omega
 have hsl:=takeSec_len l err;have HV:=Lib.hid (refvar_any w r B l err h);have HS:=Lib.hid (fun wx (hx:RefR wx r B (rv 4 0 0 l err).2.1 (rv 4 0 0 l err).2.2)=>refsub_any wx r B _ _ (rv 4 0 0 l err).1 hx);have hTS:takeSec l err=taken (rv 4 0 0 l err).1 (rv 4 0 0 l err).2.1 (rv 4 0 0 l err).2.2:=rfl;have hTL:takeLeft l err=leftL (rv 4 0 0 l err).1 (rv 4 0 0 l err).2.1 (rv 4 0 0 l err).2.2:=rfl;have hTE:takeErr l err=leftE (rv 4 0 0 l err).1 (rv 4 0 0 l err).2.1 (rv 4 0 0 l err).2.2:=rfl;rw[← hTS,← hTL,← hTE]at HS;clear hTS hTL hTE;generalize hR:takeR l err=R;unfold takeR at hR;generalize takeSec l err=sec at *;generalize takeLeft l err=l2 at *;generalize takeErr l err=e2 at *;generalize rv 4 0 0 l err=VV at *;obtain ⟨n,l1,e1⟩:=VV;dsimp only at HS hv32;unfold RrvIs at HV;dsimp only at HV;have HR:=Lib.hid hR;clear hR h;have hnI:(n:Int) < 4294967296:=by omega
 go_enter Tryz.func159,Tryz.ntmps159
 go_wp2_with fail
 go_at_call 121
 refine HV.out.mono ?_;rintro e w1 ⟨rfl,ha1⟩
 go_wp2_with fail
 go_at_call 205
 refine (HS.out w1 ha1.rdr).mono ?_;rintro e w2 ⟨s,B',rfl,hs,hrs,ha2⟩;obtain ⟨at_,q0,q1,q2⟩:=ha2.rdr.cells;have hk2:Kept (One r) w w2:=ha1.kept.trans ha2.kept;have hz1:=ha1.kept.size;have hrlt:=ha1.rdr.lt
 by_cases he:e2=0
 case neg =>
  have heN:(e2 != 0)=true:=by simpa using he
  have HR0:Hid (R=([],false)):=Lib.hid (by rw[← HR.out,if_neg he]);have heE:(e2 == 0)=false:=by simpa using he
  clear he
  go_wp2
  go_ret2
  exact ⟨none,0,by rw[HR0.out];rfl,by rw[HR0.out];exact World.ownsRow_nil _ _ _ _,ha2.rdr,hk2⟩
 subst he;rw[if_pos rfl]at HR;have HRS:=Lib.hid (refrest_any w2 s B' sec 0 hrs);have HEA:=Lib.hid (fun wx=>reach_any wx ⟨sec.toArray⟩ (by rw[ba_size];omega));have hne:s≠r:=by omega
 unfold REachIs at HEA;dsimp only at HEA;have hell:=each_len sec.length sec;have hel:(eachL sec).1.length≤sec.length:=hell;generalize hE:eachL sec=E at *;obtain ⟨L,ok⟩:=E;dsimp only at HR HEA hel;clear hE hell;cases ok with
 | false =>
  have HR0:Hid (R=([],false)):=Lib.hid (by rw[← HR.out];rfl);clear HR
  go_wp2_with (first
   | (go_at_call 109;refine HRS.out.mono ?_;rintro e w3 ⟨rfl,ha3⟩)
   | (go_at_call 206;refine (HEA.out _).mono ?_;rintro e w4 ⟨a4,c4,rfl,hown4,hk4⟩))
  go_ret2
  have hk3:Kept No w2 w4→True:=fun _=>trivial
  refine ⟨none,0,by rw[HR0.out];rfl,by rw[HR0.out];exact World.ownsRow_nil _ _ _ _,(ha2.rdr.kept ha3.kept (fun e=>hne e.symm)).kept hk4 (fun f=>f),?_⟩;exact (hk2.then ha3.kept (fun i hi e=>by have:i=s:=e;omega)).trans hk4.any
 | true =>
  have HR0:Hid (R=(sortL L,true)):=Lib.hid (by rw[← HR.out];rfl);clear HR
  go_wp2_with fail
  go_at_call 109
  refine HRS.out.mono ?_;rintro e w3 ⟨rfl,ha3⟩
  go_wp2_with fail
  go_at_call 206
  refine (HEA.out _).mono ?_;rintro e w4 ⟨a4,c4,rfl,hown4,hk4⟩;obtain ⟨hr4,hn4⟩:=own_row hown4
  go_wp2_with fail
  go_at_call 62
  refine (rsort_any a4 c4 L w4 hr4 hn4 (by omega)).mono ?_;rintro e w5 ⟨a5,c5,rfl,hown5,hk5⟩;obtain ⟨hr5,hn5⟩:=own_row hown5
  go_wp2
  go_ret2
  refine ⟨a5,c5,by rw[HR0.out];first|rfl|simp[sortL_length],by rw[HR0.out];have z3:=ha3.kept.size;have z4:=hk4.size;have z2:=hk2.size;exact own_mono (by simpa [sortL_length] using hown5) (by omega),((ha2.rdr.kept ha3.kept (fun e=>hne e.symm)).kept hk4 (fun f=>f)).kept hk5 (fun f=>f),?_⟩;exact ((hk2.then ha3.kept (fun i hi e=>by have:i=s:=e;omega)).trans hk4.any).trans hk5.any
structure FixOk (k:Int) (out:List Pr):Prop where
 val:∀ p∈out,valueB p.id p.n p.a p.b=true∧forB p.id k=true∧p.id < 256∧p.n < 4294967296∧p.a.size≤32∧p.b.size≤32
 once:∀ i,2≤(idf i out).length→oftenB i k=true
end Go.Proofs.YtohmcfmcbibbcaaGreatDoor
