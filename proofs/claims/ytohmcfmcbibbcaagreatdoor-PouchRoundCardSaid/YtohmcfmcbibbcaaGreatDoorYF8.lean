import Derived.Test.YtohmcfmcbibbcaaGreatDoorYF5
import Derived.Test.YtohmcfmcbibbcaaGreatDoorYF6
import Derived.Test.YtohmcfmcbibbcaaGreatDoorYF7
import Derived.Test.YtohmcfmcbibbcaaGreatDoorYFN
import Derived.Test.YtohmcfmcbibbcaaGreatDoorYF3
namespace Go.Proofs.YtohmcfmcbibbcaaGreatDoor
open Go.RowKit
set_option linter.unusedVariables false
set_option linter.unusedSimpArgs false
set_option maxRecDepth 100000
def Blks (s:Nat) (Bs:List (List Pr)):Prop:=∀ B∈Bs,B.length=s∧Srt B
theorem Blks.snoc {s:Nat} {Bs:List (List Pr)} {B:List Pr} (h:Blks s Bs) (h1:B.length=s) (h2:Srt B):Blks s (Bs++[B]):=fun C hC=>by
 rcases List.mem_append.1 hC with hC|hC
 ·exact h C hC
 ·rw[List.mem_singleton.1 hC];exact ⟨h1,h2⟩
theorem flat_snoc (Bs:List (List Pr)) (B:List Pr):(Bs++[B]).flatten=Bs.flatten++B:=by simp
structure Rst (L:List Pr) (s:Nat) (Bs:List (List Pr)) (R:List Pr):Prop where
 blks:Blks s Bs
 ste:Ste L (Bs.flatten++R)
 len:Bs.flatten.length+R.length=L.length
theorem Rst.done {L:List Pr} {s:Nat} {Bs:List (List Pr)} {R:List Pr} (h:Rst L s Bs R) (hR:Srt R) (hs:L.length≤s):sortL L=Bs.flatten++R:=by
 refine sortL_eq ?_ h.ste;cases Bs with
 | nil=>simpa using hR
 | cons B t =>
  have h1:=h.len;have h2:=(h.blks B (by simp)).1;simp at h1;have e1:R=[]:=List.length_eq_zero_iff.1 (by omega);have e2:t.flatten=[]:=List.length_eq_zero_iff.1 (by rw[List.length_flatten];omega);rw[List.flatten_cons,e1,e2];simpa using (h.blks B (by simp)).2
theorem ste_mid {L A M M' S:List Pr} (h:Ste L (A++(M++S))) (k:Ste M M'):Ste L (A++(M'++S)):=h.trans ((Ste.refl A).append (k.append (Ste.refl S)))
set_option maxHeartbeats 8000000 in
theorem stable_any (g c:Nat) (X:List Value) (L:List Pr) (N:Nat) (hN:N=L.length) (hNb:N≤100000) (w:World) (hd:Dat 139 w g X L) :
  Calls Tryz.prog 300 #[.slice (some ⟨g,0,none⟩) N c,.int .i64 N,.func (.func 276) #[] #[]] w (Turns 139 g X (sortL L) w):=by
 have HD:=Lib.hid hd;have HN:=Lib.hid hN;clear hd hN
 go_enter Tryz.func300,Tryz.ntmps300
 go_wp2
 go_loopw [7,8] (fun x y wr=>∃ (A B:Nat) (Bs:List (List Pr)) (R:List Pr),x=.int .i64 A∧y=.int .i64 B∧A+20≤B∧B≤A+20∧A≤N∧Hid (Rst L 20 Bs R∧A=Bs.flatten.length)∧Hid (Dat 139 wr g X (Bs.flatten++R))∧Kept (One g) w wr) (fun x _ _=>N - (intOf x).toNat)
 case atStart=>exact ⟨0,20,[],L,rfl,rfl,by omega,by omega,by omega,Lib.hid ⟨⟨by intro B hB;simp at hB,by simpa using Ste.refl L,by simp⟩,rfl⟩,Lib.hid (by simpa using HD.out),Kept.refl _ _⟩
 case round =>
  obtain ⟨A,B,Bs,R,rfl,rfl,hB1,hB2,hAN,HS,HR,hkw⟩:=hrel
  by_cases hlt:B≤N
  ·have hltI:(B:Int)≤(N:Int):=by omega
   have hBb:(B:Int)≤100000:=by omega
   obtain ⟨R1,R2,hR12,hl1,hl2⟩:=split_at (L:=R) (k:=20) (by have h1:=HS.out.1.len;have h2:=HS.out.2;have h3:=HN.out;omega);have HRR:Hid (R=R1++R2∧R1.length=20):=Lib.hid ⟨hR12,hl1⟩;clear hR12 hl1 hl2
   go_wp2_with (go_at_call 317;refine (ins_any g c X Bs.flatten R1 R2 N A B (by have h1:=HS.out.1.len;have h2:=HN.out;rw[HRR.out.1,List.length_append]at h1;omega) HS.out.2 (by have:=HRR.out;have:=HS.out.2;omega) hNb _ (by have:=HR.out;rwa [HRR.out.1]at this)).mono ?_;rintro e w2 ⟨rfl,hd2,hk2⟩)
   go_roundw
   case rel=>exact ⟨B,B+20,Bs++[sortL R1],R2,rfl,by go_num,by omega,by omega,hlt,Lib.hid ⟨⟨HS.out.1.blks.snoc (by rw[sortL_length];exact HRR.out.2) (sortL_srt R1),by have:=HS.out.1.ste;rw[HRR.out.1]at this;rw[flat_snoc,List.append_assoc];exact ste_mid this (sortL_ste R1),by have h1:=HS.out.1.len;rw[HRR.out.1,List.length_append]at h1;rw[flat_snoc,List.length_append,sortL_length];omega⟩,by rw[flat_snoc,List.length_append,sortL_length];have h1:=HRR.out.2;have h2:=HS.out.2;omega⟩,Lib.hid (by rw[flat_snoc,List.append_assoc];exact hd2),hkw.trans hk2⟩
   case measure=>simp[intOf];omega
  ·have hltI:¬ (B:Int)≤(N:Int):=by omega
   go_wp2_with (go_at_call 317;refine (ins_any g c X Bs.flatten R [] N A N (by have h1:=HS.out.1.len;have h2:=HN.out;rw[List.length_nil];omega) HS.out.2 (by have h1:=HS.out.1.len;have h2:=HN.out;omega) hNb _ (by simpa using HR.out)).mono ?_;rintro e w2 ⟨rfl,hd2,hk2⟩)
   have HR2:Hid (Dat 139 w2 g X (Bs.flatten++sortL R)):=Lib.hid (by simpa using hd2);have HS2:Hid (Rst L 20 Bs (sortL R)):=Lib.hid ⟨HS.out.1.blks,by have:=HS.out.1.ste;have h2:=ste_mid (S:=[]) (M:=R) (M':=sortL R) (by simpa using this) (sortL_ste R);simpa using h2,by rw[sortL_length];exact HS.out.1.len⟩;have HSR:Hid (Srt (sortL R)∧(sortL R).length < 20):=Lib.hid ⟨sortL_srt R,by rw[sortL_length];have h1:=HS.out.1.len;have h2:=HN.out;have h3:=HS.out.2;omega⟩;have hkw2:=hkw.trans hk2;clear hd2 HR HS hkw hk2;generalize sortL R=R0 at *;generalize w2=wS at *
   go_loopw [6] (fun x wr=>∃ (s:Nat) (Bs:List (List Pr)) (R:List Pr),x=.int .i64 s∧20≤s∧s≤200000∧Hid (Rst L s Bs R)∧Hid (Srt R∧R.length < s)∧Hid (Dat 139 wr g X (Bs.flatten++R))∧Kept (One g) w wr) (fun x _=>N - (intOf x).toNat)
   case atStart=>exact ⟨20,Bs,R0,rfl,by omega,by omega,HS2,HSR,HR2,hkw2⟩
   case round =>
    clear HS2 HSR HR2 hkw2;obtain ⟨s,Bs,R,rfl,hs20,hs2,HS,HSR,HR,hkw⟩:=hrel
    by_cases hlt2:s < N
    ·have hlt2I:(s:Int) < (N:Int):=by omega
     obtain ⟨s2,hs2e⟩:∃ s2,s2=2 * s:=⟨_,rfl⟩
     have hs2I:2 * (s:Int)=(s2:Int):=by omega
     have hs2J:(s:Int) * 2=(s2:Int):=by omega
     have hs2lo:2 * s≤s2:=by omega
     have hs2hi:s2≤2 * s:=by omega
     have hs2b:(s2:Int)≤200000:=by omega
     have HS2E:=Lib.hid hs2e;clear hs2e
     go_wp2
     go_loopw [7,8] (fun x y wr=>∃ (A B:Nat) (Cs Ds:List (List Pr)),x=.int .i64 A∧y=.int .i64 B∧A+s2≤B∧B≤A+s2∧A≤N∧Hid (Blks s2 Cs∧True∧Blks s Ds∧Ste L (Cs.flatten++(Ds.flatten++R))∧A=Cs.flatten.length∧A+Ds.flatten.length+R.length=N)∧Hid (Dat 139 wr g X (Cs.flatten++(Ds.flatten++R)))∧Kept (One g) w wr) (fun x _ _=>N - (intOf x).toNat)
     case atStart=>exact ⟨0,s2,[],Bs,rfl,by first|rfl|simp,by omega,by omega,by omega,Lib.hid ⟨by intro B hB;simp at hB,trivial,HS.out.blks,by simpa using HS.out.ste,rfl,by have h1:=HS.out.len;have h2:=HN.out;omega⟩,Lib.hid (by simpa using HR.out),hkw⟩
     case round =>
      obtain ⟨A,B,Cs,Ds,rfl,rfl,hB1,hB2,hAN,HQ,HR2,hkw3⟩:=hrel;obtain ⟨q,hq⟩:∃ q,q=A+s:=⟨_,rfl⟩
      have hqI:(A:Int)+(s:Int)=(q:Int):=by omega
      have hqb:(q:Int)≤300000:=by omega
      have HQE:=Lib.hid hq
      by_cases hlt3:B≤N
      ·have hlt3I:(B:Int)≤(N:Int):=by omega
       have hBb:(B:Int)≤100000:=by omega
       obtain ⟨B1,B2,Es,hDs⟩:∃ B1 B2 Es,Ds=B1 :: B2 :: Es:=by
        have h9:=HQ.out.2.2.2.2.2;have h8:=HSR.out.2;cases Ds with
        | nil=>exfalso;rw[List.flatten_nil,List.length_nil]at h9;omega
        | cons B1 t =>
         have hb1:=(HQ.out.2.2.1 B1 (by simp)).1;cases t with
         | nil=>exfalso;rw[List.flatten_cons,List.flatten_nil,List.append_nil]at h9;omega
         | cons B2 Es=>exact ⟨B1,B2,Es,rfl⟩
       subst hDs;have HB:Hid (B1.length=s∧Srt B1∧B2.length=s∧Srt B2):=Lib.hid ⟨(HQ.out.2.2.1 B1 (by simp)).1,(HQ.out.2.2.1 B1 (by simp)).2,(HQ.out.2.2.1 B2 (by simp)).1,(HQ.out.2.2.1 B2 (by simp)).2⟩;have HLN:Hid (A+(s+s+Es.flatten.length)+R.length=N):=Lib.hid (by have h9:=HQ.out.2.2.2.2.2;have h8:=HB.out;rw[List.flatten_cons,List.flatten_cons,List.length_append,List.length_append]at h9;omega);clear hq
       go_wp2_with (go_at_call 318;refine (symmerge_any g c X N hNb Cs.flatten B1 B2 (Es.flatten++R) A q B _ ⟨by have:=HLN.out;have:=HB.out;have:=HQ.out.2.2.2.2.1;rw[List.length_append];omega,HQ.out.2.2.2.2.1,by have:=HQE.out;have:=HB.out;have:=HQ.out.2.2.2.2.1;omega,by have:=HB.out;have:=HQ.out.2.2.2.2.1;have:=HS2E.out;omega,by have:=HB.out;omega,by have:=HB.out;omega,HB.out.2.1,HB.out.2.2.2⟩ (by simpa using HR2.out)).mono ?_;rintro e w3 ⟨rfl,hd3,hk3⟩)
       go_roundw
       case rel=>exact ⟨B,B+s2,Cs++[sortL (B1++B2)],Es,rfl,by go_num,by omega,by omega,hlt3,Lib.hid ⟨HQ.out.1.snoc (by rw[sortL_length,List.length_append];have:=HB.out;have:=HS2E.out;omega) (sortL_srt _),trivial,fun C hC=>HQ.out.2.2.1 C (by simp[hC]),by have:=HQ.out.2.2.2.1;rw[flat_snoc,List.append_assoc];exact ste_mid (M:=B1++B2) (by simpa using this) (sortL_ste _),by rw[flat_snoc,List.length_append,sortL_length,List.length_append];have:=HB.out;have:=HQ.out.2.2.2.2.1;have:=HS2E.out;omega,by have:=HLN.out;have:=HS2E.out;omega⟩,Lib.hid (by rw[flat_snoc,List.append_assoc];exact hd3),hkw3.trans hk3⟩
       case measure=>simp[intOf];omega
      ·have hlt3I:¬ (B:Int)≤(N:Int):=by omega
       have HF:Hid (Srt (Ds.flatten++R)∨(∃ D,Ds=[D]∧0 < R.length∧D.length=s∧Srt D)):=Lib.hid (by
        have h9:=HQ.out.2.2.2.2.2;have h8:=HSR.out.2;cases Ds with
        | nil=>exact .inl (by simpa using HSR.out.1)
        | cons D1 t =>
         have hb1:=HQ.out.2.2.1 D1 (by simp);cases t with
         | nil =>
          rcases Nat.eq_zero_or_pos R.length with h0|h0
          ·left
           rw[List.length_eq_zero_iff.1 h0];simpa using hb1.2
          ·exact .inr ⟨D1,rfl,h0,hb1.1,hb1.2⟩
         | cons D2 Es =>
          exfalso;have hb2:=(HQ.out.2.2.1 D2 (by simp)).1;rw[List.flatten_cons,List.flatten_cons,List.length_append,List.length_append]at h9;omega)
       have HLD:Hid (Ds.flatten.length+R.length < s2):=Lib.hid (by have h9:=HQ.out.2.2.2.2.2;omega);have HNX:Hid (∀ R',Ste (Ds.flatten++R) R'→R'.length=Ds.flatten.length+R.length→Rst L s2 Cs R'):=Lib.hid (fun R' hst hl=>⟨HQ.out.1,by have h1:=HQ.out.2.2.2.1;exact h1.trans ((Ste.refl _).append hst),by have h9:=HQ.out.2.2.2.2.2;have:=HQ.out.2.2.2.2.1;have:=HN.out;omega⟩)
       by_cases hm:q < N
       ·have hmI:(q:Int) < (N:Int):=by omega
        have HD1:Hid (∃ D,Ds=[D]∧0 < R.length∧D.length=s∧Srt D):=Lib.hid (by
         have h9:=HQ.out.2.2.2.2.2;have h7:=HQE.out;cases Ds with
         | nil=>exfalso;rw[List.flatten_nil,List.length_nil]at h9;have:=HSR.out.2;omega
         | cons D1 t =>
          have hb1:=HQ.out.2.2.1 D1 (by simp);cases t with
          | nil=>rw[List.flatten_cons,List.flatten_nil,List.append_nil]at h9;exact ⟨D1,rfl,by omega,hb1.1,hb1.2⟩
          | cons D2 Es =>
           exfalso;have hb2:=(HQ.out.2.2.1 D2 (by simp)).1;rw[List.flatten_cons,List.flatten_cons,List.length_append,List.length_append]at h9;omega)
        obtain ⟨D,hDs,hR0,hDl,hDs2⟩:=HD1.out;subst hDs;have HDD:Hid (0 < R.length∧D.length=s∧Srt D):=Lib.hid ⟨hR0,hDl,hDs2⟩;have HLN:Hid (A+s+R.length=N):=Lib.hid (by have h9:=HQ.out.2.2.2.2.2;rw[List.flatten_cons,List.flatten_nil,List.append_nil]at h9;omega);clear hq hR0 hDl hDs2 HD1 HF
        go_wp2_with (go_at_call 318;refine (symmerge_any g c X N hNb Cs.flatten D R [] A q N _ ⟨by have:=HLN.out;have:=HDD.out;have:=HQ.out.2.2.2.2.1;rw[List.length_nil];omega,HQ.out.2.2.2.2.1,by have:=HQE.out;have:=HDD.out;have:=HQ.out.2.2.2.2.1;omega,by have:=HDD.out;have:=HQ.out.2.2.2.2.1;have:=HLN.out;omega,by have:=HDD.out;omega,HDD.out.1,HDD.out.2.2,HSR.out.1⟩ (by simpa using HR2.out)).mono ?_;rintro e w3 ⟨rfl,hd3,hk3⟩)
        go_roundw
        case rel=>exact ⟨s2,Cs,sortL (D++R),by first|rfl|go_num,by omega,by omega,Lib.hid (HNX.out _ (by simpa using sortL_ste (D++R)) (by rw[sortL_length];simp)),Lib.hid ⟨sortL_srt _,by rw[sortL_length];have:=HLD.out;simpa using this⟩,Lib.hid (by simpa using hd3),hkw3.trans hk3⟩
        case measure=>simp[intOf];omega
       ·have hmI:¬ (q:Int) < (N:Int):=by omega
        have HFS:Hid (Srt (Ds.flatten++R)):=Lib.hid (by
         rcases HF.out with h|⟨D,h1,h2,h3,h4⟩
         ·exact h
         ·exfalso
          have h9:=HQ.out.2.2.2.2.2;rw[h1,List.flatten_cons,List.flatten_nil,List.append_nil]at h9
          have:=HQE.out
          omega)
        clear hq HF
        go_wp2
        go_roundw
        case rel=>exact ⟨s2,Cs,Ds.flatten++R,by first|rfl|go_num,by omega,by omega,Lib.hid (HNX.out _ (Ste.refl _) (by rw[List.length_append])),Lib.hid ⟨HFS.out,by rw[List.length_append];exact HLD.out⟩,HR2,hkw3⟩
        case measure=>simp[intOf];omega
    ·have hlt2I:¬ (s:Int) < (N:Int):=by omega
     have HFIN:Hid (sortL L=Bs.flatten++R):=Lib.hid (HS.out.done HSR.out.1 (by have:=HN.out;omega))
     go_wp2
     first|go_end0|go_ret
     exact ⟨rfl,by rw[HFIN.out];exact HR.out,hkw⟩
theorem dat_of_own {w:World} {t:TypeId} {base n c:Nat} {a:Option Addr} {L:List Pr} (h:w.ownsRow base t 4 (.slice a n c) n (PC L)) (h0:0 < n) (hl:n=L.length) :
  ∃ g X,a=some ⟨g,0,none⟩∧base≤g∧n≤c∧Dat t w g X L∧(∀ L' w',L'.length=n→Dat t w' g X L'→w'.ownsRow base t 4 (.slice a n c) n (PC L')):=by
 rcases h.2 with ⟨hv,h9⟩|⟨g,cap,cur,hv,hg,hb,hn,hm,hs,hx⟩
 ·omega
 ·injection hv with e1 e2 e3
  subst e1 e3
  have hcur:cur=(PC L++cur.toList.drop (n * 4)).toArray:=by
   rw[← hx,List.take_append_drop]
  refine ⟨g,cur.toList.drop (n * 4),rfl,hg,hn,?_,?_⟩
  ·unfold Dat Blk
   rw[← hcur];exact hb
  ·intro L' w' hl' hd
   refine ⟨by rw[PC_length,hl'],.inr ⟨g,c,_,rfl,hg,hd,hn,hm,?_,?_⟩⟩
   ·have:cur.toList.length=c * 4:=by rw[Array.length_toList];exact hs
    have hnc:n * 4≤c * 4:=Nat.mul_le_mul_right 4 hn;simp only[List.size_toArray,List.length_append,List.length_drop,PC_length,hl'];omega
   ·have e:n * 4=(PC L').length:=by rw[PC_length,hl']
    rw[e];simp
theorem stablefunc_any (g c:Nat) (X:List Value) (L:List Pr) (N:Nat) (hN:N=L.length) (hNb:N≤100000) (w:World) (hd:Dat 139 w g X L) :
  Calls Tryz.prog 275 #[.slice (some ⟨g,0,none⟩) N c,.func (.func 276) #[] #[]] w (Turns 139 g X (sortL L) w):=by
 have H:=Lib.hid (stable_any g c X L N hN hNb w hd);clear hN hd
 go_enter Tryz.func275,Tryz.ntmps275
 go_wp2_with (go_at_call 300;refine H.out.mono ?_;rintro e w2 ⟨rfl,hd2,hk2⟩)
 first|go_end0|go_ret
 exact ⟨rfl,hd2,hk2⟩
theorem sort_any (X:List Pr) (h:X.length≤100000):SortAt X:=by
 by_cases h1:X.length≤1
 ·exact sort_small X h1
 intro a c w hr hn;have cC:=Lib.hid (pclone_any a c X w hr hn h);have HS:Hid (∀ (g c:Nat) (Y:List Value) (wx:World),Dat 139 wx g Y X→Calls Tryz.prog 275 #[.slice (some ⟨g,0,none⟩) X.length c,.func (.func 276) #[] #[]] wx (Turns 139 g Y (sortL X) wx)):=Lib.hid (fun g c Y wx hd=>stablefunc_any g c Y X X.length rfl h wx hd);have HX1:=Lib.hid h1;clear hr hn h1
 go_enter Tryz.func246,Tryz.ntmps246
 go_wp2_with (go_at_call 274;refine cC.out.mono ?_;rintro e w1 ⟨a1,c1,rfl,hown,hk1⟩;obtain ⟨g,Y,ha1,hg,hnc,hd,hback⟩:=dat_of_own hown (by have:=HX1.out;omega) rfl;subst ha1)
 have HB:=Lib.hid hback;clear hback
 go_wp2_with (go_at_call 275;refine (HS.out _ _ _ _ hd).mono ?_;rintro e w2 ⟨rfl,hd2,hk2⟩)
 go_ret
 refine ⟨some ⟨g,0,none⟩,c1,by simp[sortL_length],?_,hk1.then hk2 (fun i hi e=>by have:i=g:=e;omega)⟩;rw[sortL_length];exact HB.out _ _ (sortL_length X) hd2
set_option maxHeartbeats 8000000 in
theorem rsort_any (a:Option Addr) (c0:Nat) (M:List Pr) (w:World) (hr:Row w a (PC M)) (hn:a=none→M.length=0∧c0=0) (hl:M.length≤100000) :
  Calls Tryz.prog 62 #[.slice a M.length c0] w (OwnP 123 w (sortL M)):=by
 obtain ⟨i0,hi,hz0,hz1,hz2⟩:=info_parts info_rprop
 by_cases hM:M.length=0
 ·obtain rfl:M=[]:=List.length_eq_zero_iff.1 hM
  cases a with
  | none =>
   obtain ⟨_,rfl⟩:=hn rfl
   go_enter Tryz.func62,Tryz.ntmps62
   go_wp2_with (at_builtin;refine wpList_append_own_none rfl _ _ _ rfl w.heap.size 123 i0 4 Tryz.underlying36 hi _ _ _ rfl (own_emptyK w _ _ 4 (Nat.le_refl _)) rfl ?_)
   go_loopw [4] (fun x wr=>x=.int .i64 1∧wr=w.alloc (.cells #[] 123)) (fun _ _=>0)
   case atStart=>exact ⟨rfl,rfl⟩
   case round =>
    obtain ⟨rfl,rfl⟩:=hrel
    go_wp2
    go_ret
    exact ownP_of (own_emptyK w _ 123 4 (Nat.le_refl _)) (by simp[sortL]) (by simp[sortL]) ((Kept.refl No w).alloc _)
  | some ad =>
   go_enter Tryz.func62,Tryz.ntmps62
   go_wp2_with (at_builtin;refine wpList_append_own _ rfl _ _ _ rfl w.heap.size 123 i0 _ 4 40 Tryz.underlying36 hi hz0 hz1 hz2 rfl (by decide) _ _ _ rfl (own_emptyK w _ _ 4 (Nat.le_refl _)) ad 0 c0 (PC []) rfl (by simp) ?c0 (PC_cell1 _) ?c1 ?c2 ?c3 ?_;rotate_right;intro v1 w1 hown1 hg1 hv1)
   case c0=>intro j u hj;simp at hj
   case c1=>unfold maxLen;omega
   case c2=>omega
   case c3=>simp
   obtain ⟨a1,c1,rfl,_,_⟩:=own_form hown1;have hk1:Kept No w w1:=((Kept.refl No w).alloc _).grown hg1 (own_no (own_emptyK w _ 123 4 (Nat.le_refl _)))
   go_wp2
   go_loopw [4] (fun x wr=>x=.int .i64 1∧wr=w1) (fun _ _=>0)
   case atStart=>exact ⟨rfl,rfl⟩
   case round =>
    obtain ⟨rfl,rfl⟩:=hrel
    go_wp2
    go_ret
    exact ownP_of hown1 (by simp[sortL]) (by simp[sortL]) hk1
 have hM0:0 < M.length:=by omega
 clear hM
 obtain ⟨ad,rfl⟩:∃ ad,a=some ad:=by
  cases a with
  | none=>have:=hn rfl;omega
  | some ad=>exact ⟨ad,rfl⟩
 obtain ⟨N,hNM⟩:∃ N,N=M.length:=⟨_,rfl⟩
 have hNb:N≤100000:=by omega
 have hN0:0 < N:=by omega
 rw[← hNM];have HN:=Lib.hid hNM;have HC0:=Lib.hid ((hr.keptNo ((Kept.refl No w).alloc (.cells #[] 123))).at_add ad rfl);have HL0:Hid ((PC M).length=N * 4):=Lib.hid (by rw[PC_length,hNM]);clear hr hn hl hM0 hNM
 go_enter Tryz.func62,Tryz.ntmps62
 go_wp2_with (at_builtin;refine wpList_append_own _ rfl _ _ _ rfl w.heap.size 123 i0 _ 4 40 Tryz.underlying36 hi hz0 hz1 hz2 rfl (by decide) _ _ _ rfl (own_emptyK w _ _ 4 (Nat.le_refl _)) ad N c0 (PC M) rfl HL0.out HC0.out (PC_cell1 _) ?c1 ?c2 ?c3 ?_;rotate_right;intro v1 w1 hown1 hg1 hv1)
 case c1=>unfold maxLen;omega
 case c2=>omega
 case c3=>simp
 have hk1:Kept No w w1:=((Kept.refl No w).alloc _).grown hg1 (own_no (own_emptyK w _ 123 4 (Nat.le_refl _)));rw[List.nil_append,Nat.zero_add]at hown1;obtain ⟨a1,c,rfl,_,_⟩:=own_form hown1;obtain ⟨g,X,rfl,hg,hnc,hd,hback⟩:=dat_of_own hown1 hN0 HN.out;have HD:=Lib.hid hd;have HBK:=Lib.hid hback;have HK1:=Lib.hid hk1;clear hd hback hown1 hv1 hg1 hk1 HC0 HL0;generalize w1=wS at *
 go_wp2
 go_loopw [4] (fun vi wr=>∃ (i:Nat) (M1 M2:List Pr),vi=.int .i64 i∧0 < i∧i≤N+1∧Hid (M=M1++M2∧i=M1.length)∧Hid (Dat 123 wr g X (sortL M1++M2))∧Kept (One g) wS wr) (fun i _=>N+1 - (intOf i).toNat)
 case atStart =>
  rcases hMM:M with _|⟨x,M'⟩
  ·exfalso;have:=HN.out;rw[hMM]at this;simp at this;omega
  ·exact ⟨1,[x],M',rfl,by omega,by omega,Lib.hid ⟨rfl,rfl⟩,Lib.hid (by have:=HD.out;rw[hMM]at this;simpa [sortL] using this),Kept.refl _ _⟩
 case round =>
  obtain ⟨i,M1,M2,rfl,hai,hib,HM,HR,hkw⟩:=hrel
  by_cases hlt:i < N
  ·have hltz:(i:Int) < (N:Int):=by omega
   have hiB:(i:Int)≤100000:=by omega
   obtain ⟨x,M2',rfl⟩:∃ x M2',M2=x :: M2':=by
    cases M2 with
    | nil=>exfalso;have h1:=HM.out;have h2:=HN.out;rw[h1.1]at h2;simp at h2;omega
    | cons x t=>exact ⟨x,t,rfl⟩
   go_wp2
   go_loopw [5] (fun vj wr=>∃ (j:Nat) (N1 N2:List Pr),vj=.int .i64 j∧j≤i∧Hid (sortL M1=N1++N2∧j=N1.length∧∀ y∈N2,x.id < y.id)∧Hid (Dat 123 wr g X (N1++(x :: (N2++M2'))))∧Kept (One g) wS wr) (fun j _=>(intOf j).toNat)
   case atStart=>exact ⟨i,sortL M1,[],rfl,Nat.le_refl _,Lib.hid ⟨by simp,by rw[sortL_length];exact HM.out.2,by simp⟩,Lib.hid (by simpa using HR.out),hkw⟩
   case round =>
    obtain ⟨j,N1,N2,rfl,hji,HJ,HR2,hkw2⟩:=hrel
    have OUT:Hid ((N1=[]∨∃ N1' y,N1=N1'++[y]∧¬ x.id < y.id)→∀ wx,Dat 123 wx g X (N1++(x :: (N2++M2')))→Hid (M=(M1++[x])++M2'∧i+1=(M1++[x]).length)∧Hid (Dat 123 wx g X (sortL (M1++[x])++M2'))):=Lib.hid (fun h wx hd=>by
     refine ⟨Lib.hid ⟨by rw[HM.out.1];simp,by have:=HM.out.2;simp;omega⟩,Lib.hid ?_⟩;rw[ins_more HJ.out.1 h HJ.out.2.2];simpa using hd)
    by_cases hja:0 < j
    ·obtain ⟨jp,rfl⟩:∃ jp,j=jp+1:=⟨j - 1,by omega⟩
     obtain ⟨N1',y,hN1⟩:∃ N1' y,N1=N1'++[y]:=by
      have h0:N1≠[]:=fun h=>by have:=HJ.out.2.1;rw[h]at this;simp at this
      exact ⟨N1.dropLast,N1.getLast h0,(List.dropLast_concat_getLast h0).symm⟩
     have HNN:=Lib.hid hN1;have HP:Hid (jp=N1'.length∧jp+1=N1'.length+1+([]:List Pr).length):=Lib.hid (by have h1:=HJ.out.2.1;rw[hN1]at h1;simp at h1 ⊢;omega);have HR3:Hid (Dat 123 wr g X (N1'++y :: ([]++x :: (N2++M2')))):=Lib.hid (by have:=HR2.out;rw[hN1]at this;simpa using this);have HR4:Hid (∀ wx,Dat 123 wx g X (N1'++y :: ([]++x :: (N2++M2')))→Dat 123 wx g X (N1++(x :: (N2++M2')))):=Lib.hid (fun wx h=>by rw[hN1];simpa using h);clear hN1;have hwp:IntKind.i64.wrap (jp:Int)=(jp:Int):=by rw[IntKind.wrap_i64];omega
     have jz:(jp:Int)+1 < (N:Int):=by omega
     have jz1:(jp:Int) < (N:Int):=by omega
     have hjaz':(0:Int) < (jp:Int)+1:=by omega
     have p0:(0:Int)≤(jp:Int)+1:=by omega
     have e0:((jp:Int)+1).toNat=jp+1:=by omega
     have hD3:=HR3.out;generalize hLS:N1'++y :: ([]++x :: (N2++M2'))=LS at *;have HLS:=Lib.hid hLS;have hly:∀ wx,Dat 123 wx g X LS→(Instr.loadAt 123 (.pointer (some ⟨g,jp * 4,none⟩))).run Tryz.prog wx=.ok y.val wx∧wx.cell? ⟨g,jp * 4,none⟩=some (.int .u8 y.id):=fun wx h=>by rw[← hLS]at h;exact ⟨h.loadR HP.out.1,(h.cells HP.out.1).1⟩
     have hlx:∀ wx,Dat 123 wx g X LS→(Instr.loadAt 123 (.pointer (some ⟨g,(jp+1) * 4,none⟩))).run Tryz.prog wx=.ok x.val wx∧wx.cell? ⟨g,(jp+1) * 4,none⟩=some (.int .u8 x.id):=fun wx h=>by
      rw[← hLS]at h;have h2:Dat 123 wx g X ((N1'++[y])++x :: (N2++M2')):=by simpa using h
      have h3:jp+1=(N1'++[y]).length:=by have:=HP.out.1;simp;omega
      exact ⟨h2.loadR h3,(h2.cells h3).1⟩
     have HLY:=Lib.hid hly;have HLX:=Lib.hid hlx;clear hLS hly hlx
     by_cases hlv:x.id < y.id
     ·have hcI:(x.id:Int) < (y.id:Int):=by omega
      go_wp2
      refine wp_region_held_drew (S:=(fun wx=>Dat 123 wx g X LS∧Kept No wr wx)) (by kernel_rfl) ?_ (fun hHeld=>?_)
      ·exact ⟨hD3.kept (S:=No) ((Kept.refl No wr).drew) (fun f=>f),(Kept.refl No wr).drew⟩
      refine wtv (i:=0) (v:=?_) rfl (λwz9 hSw=>?_) ?_;rotate_left;(·(try dsimp only at hSw);go_simp;try with_reducible rfl);go_simp
      refine wtv (i:=1) (v:=(.bool true)) rfl (λwz9 hSw=>?_) ?_;(·(try dsimp only at hSw);go_simp;try with_reducible rfl);go_simp
      refine wtv (i:=2) (v:=(.bool true)) rfl (λwz9 hSw=>?_) ?_;(·(try dsimp only at hSw);go_simp;try with_reducible rfl);go_simp
      refine wtv (i:=3) (v:=(.slice (some ⟨g,0,none⟩) N c)) rfl (λwz9 hSw=>?_) ?_;(·(try dsimp only at hSw);go_simp;try with_reducible rfl);go_simp
      refine wtv (i:=4) (v:=?_) rfl (λwz9 hSw=>?_) ?_;rotate_left;(·(try dsimp only at hSw);go_simp;try with_reducible rfl);go_simp
      refine wtk (i:=5) (v:=(.int .i64 (jp:Int))) rfl (Or.inl ⟨by rfl,?hhsa5⟩) (by assumption) ?rrsa5
      case hhsa5=>(intro wz9 hSw;clear hSw;go_simp;first|done|rw[hwp]|omega)
      go_simp
      refine wtv (i:=6) (v:=(.pointer (some ⟨g,jp * 4,none⟩))) rfl (λwz9 hSw=>?_) ?_;(·(try dsimp only at hSw);go_simp;try with_reducible rfl);go_simp
      refine wtv (i:=7) (v:=(.pointer (some ⟨g,jp * 4,none⟩))) rfl (λwz9 hSw=>?_) ?_;(·(try dsimp only at hSw);go_simp;try with_reducible rfl);go_simp
      refine wtk (i:=8) (v:=(.int .u8 (y.id:Int))) rfl (Or.inl ⟨by rfl,?hhsa8⟩) (by assumption) ?rrsa8
      case hhsa8=>(intro wz9 hSw;have hc:=(HLY.out wz9 hSw.1).2;clear hSw;go_simp;try with_reducible rfl)
      go_simp
      refine wtv (i:=9) (v:=(.slice (some ⟨g,0,none⟩) N c)) rfl (λwz9 hSw=>?_) ?_;(·(try dsimp only at hSw);go_simp;try with_reducible rfl);go_simp
      refine wtv (i:=10) (v:=?_) rfl (λwz9 hSw=>?_) ?_;rotate_left;(·(try dsimp only at hSw);go_simp;try with_reducible rfl);go_simp
      refine wtv (i:=11) (v:=(.pointer (some ⟨g,(jp+1) * 4,none⟩))) rfl (λwz9 hSw=>?_) ?_;(·(try dsimp only at hSw);go_simp;try with_reducible rfl);go_simp
      refine wtv (i:=12) (v:=(.pointer (some ⟨g,(jp+1) * 4,none⟩))) rfl (λwz9 hSw=>?_) ?_;(·(try dsimp only at hSw);go_simp;try with_reducible rfl);go_simp
      refine wtk (i:=13) (v:=(.int .u8 (x.id:Int))) rfl (Or.inl ⟨by rfl,?hhsa13⟩) (by assumption) ?rrsa13
      case hhsa13=>(intro wz9 hSw;have hc:=(HLX.out wz9 hSw.1).2;clear hSw;go_simp;try with_reducible rfl)
      go_simp
      refine wtv (i:=14) (v:=(.bool true)) rfl (λwz9 hSw=>?_) ?_;(·(try dsimp only at hSw);go_simp;try with_reducible rfl);go_simp
      refine wtv (i:=15) (v:=(.bool true)) rfl (λwz9 hSw=>?_) ?_;(·(try dsimp only at hSw);go_simp;try with_reducible rfl);go_simp
      refine wpAnyH_done (by kernel_rfl) ?_ _
      go_wp2
      have hD4:=hHeld.1;have hk4:=hkw2.trans hHeld.2.any;clear hHeld hD3;generalize wr.drew=w3 at *;have hWD:Dat 123 w3.drew g X LS:=hD4.kept (S:=No) ((Kept.refl No w3).drew) (fun f=>f);have hKD:Kept (One g) wS w3.drew:=hk4.drew;clear hD4 hk4;refine wp_region_any (by kernel_rfl) ?_
      try (change wpAny _ _ _ _ _ _ _ (World.drew _))
      generalize w3.drew=wD at *;have hWD2:=hWD;rw[← HLS.out]at hWD2;obtain ⟨w1,st1,k1,w2,st2,k2,d2⟩:=hWD2.swap1R HP.out.1 HP.out.2;have HLI:=Lib.hid (HLY.out wD hWD).1;have HLJ:=Lib.hid (HLX.out wD hWD).1;have HST1:=Lib.hid st1;have HST2:=Lib.hid st2;have HD2:=Lib.hid d2;clear st1 st2 hWD hWD2 d2;refine wpAny_take (i:=0) (v:=(.slice (some ⟨g,0,none⟩) N c)) rfl (by kernel_rfl) (by kernel_rfl) (by kernel_rfl) (fun _ _ _ h=>h) (Or.inl ⟨by rfl,?hhsx0⟩) ?rrsx0
      case hhsx0=>(intro wz9;go_simp;try with_reducible rfl)
      go_simp
      refine wpAny_take (i:=1) (v:=(.int .i64 ((jp:Int)+1))) rfl (by kernel_rfl) (by kernel_rfl) (by kernel_rfl) (fun _ _ _ h=>h) (Or.inl ⟨by rfl,?hhsx1⟩) ?rrsx1
      case hhsx1=>(intro wz9;go_simp;try with_reducible rfl)
      go_simp
      refine wpAny_take (i:=2) (v:=(.int .i64 (jp:Int))) rfl (by kernel_rfl) (by kernel_rfl) (by kernel_rfl) (fun _ _ _ h=>h) (Or.inl ⟨by rfl,?hhsx2⟩) ?rrsx2
      case hhsx2=>(intro wz9;go_simp;first|done|rw[hwp]|omega)
      go_simp
      refine wpAny_take (i:=3) (v:=(.slice (some ⟨g,0,none⟩) N c)) rfl (by kernel_rfl) (by kernel_rfl) (by kernel_rfl) (fun _ _ _ h=>h) (Or.inl ⟨by rfl,?hhsx3⟩) ?rrsx3
      case hhsx3=>(intro wz9;go_simp;try with_reducible rfl)
      go_simp
      refine wpAny_take (i:=4) (v:=(.int .i64 ((jp:Int)+1))) rfl (by kernel_rfl) (by kernel_rfl) (by kernel_rfl) (fun _ _ _ h=>h) (Or.inl ⟨by rfl,?hhsx4⟩) ?rrsx4
      case hhsx4=>(intro wz9;go_simp;try with_reducible rfl)
      go_simp
      refine wpAny_take (i:=5) (v:=(.slice (some ⟨g,0,none⟩) N c)) rfl (by kernel_rfl) (by kernel_rfl) (by kernel_rfl) (fun _ _ _ h=>h) (Or.inl ⟨by rfl,?hhsx5⟩) ?rrsx5
      case hhsx5=>(intro wz9;go_simp;try with_reducible rfl)
      go_simp
      refine wpAny_take (i:=6) (v:=(.int .i64 ((jp:Int)+1))) rfl (by kernel_rfl) (by kernel_rfl) (by kernel_rfl) (fun _ _ _ h=>h) (Or.inl ⟨by rfl,?hhsx6⟩) ?rrsx6
      case hhsx6=>(intro wz9;go_simp;try with_reducible rfl)
      go_simp
      refine wpAny_take (i:=7) (v:=(.pointer (some ⟨g,(jp+1) * 4,none⟩))) rfl (by kernel_rfl) (by kernel_rfl) (by kernel_rfl) (fun _ _ _ h=>h) (Or.inl ⟨by rfl,?hhsx7⟩) ?rrsx7
      case hhsx7=>(intro wz9;go_simp;try with_reducible rfl)
      go_simp
      refine wpAny_take (i:=9) (v:=(.slice (some ⟨g,0,none⟩) N c)) rfl (by kernel_rfl) (by kernel_rfl) (by kernel_rfl) (fun _ _ _ h=>h) (Or.inl ⟨by rfl,?hhsx9⟩) ?rrsx9
      case hhsx9=>(intro wz9;go_simp;try with_reducible rfl)
      go_simp
      refine wpAny_take (i:=10) (v:=(.int .i64 ((jp:Int)+1))) rfl (by kernel_rfl) (by kernel_rfl) (by kernel_rfl) (fun _ _ _ h=>h) (Or.inl ⟨by rfl,?hhsx10⟩) ?rrsx10
      case hhsx10=>(intro wz9;go_simp;try with_reducible rfl)
      go_simp
      refine wpAny_take (i:=11) (v:=(.int .i64 (jp:Int))) rfl (by kernel_rfl) (by kernel_rfl) (by kernel_rfl) (fun _ _ _ h=>h) (Or.inl ⟨by rfl,?hhsx11⟩) ?rrsx11
      case hhsx11=>(intro wz9;go_simp;first|done|rw[hwp]|omega)
      go_simp
      refine wpAny_take (i:=12) (v:=(.pointer (some ⟨g,jp * 4,none⟩))) rfl (by kernel_rfl) (by kernel_rfl) (by kernel_rfl) (fun _ _ _ h=>h) (Or.inl ⟨by rfl,?hhsx12⟩) ?rrsx12
      case hhsx12=>(intro wz9;go_simp;try with_reducible rfl)
      go_simp
      refine wpAny_ready (rs:=[8,13]) (by kernel_rfl) (by simp) ?_;refine AllReady.cons rfl (fun K9 hK9=>?_) (AllReady.cons rfl (fun K9 hK9=>?_) AllReady.nil)
      ·refine (if_pos (show Region.wanted _ _=true from rfl)).mpr ?_
       refine op_loadN 123 (.tmp 41) rfl rfl HLJ.out ?_;refine hK9 _ _ ?_;clear hK9 K9
       go_simp
       refine wpAny_ready (rs:=[13]) (by kernel_rfl) (by simp) ?_;refine AllReady.cons rfl (fun K9 hK9=>?_) AllReady.nil;refine (if_pos (show Region.wanted _ _=true from rfl)).mpr ?_;refine op_loadN 123 (.tmp 46) rfl rfl HLI.out ?_;refine hK9 _ _ ?_;clear hK9 K9
       go_simp
       refine wpAny_take (i:=14) (v:=(.pointer (some ⟨g,jp * 4,none⟩))) rfl (by kernel_rfl) (by kernel_rfl) (by kernel_rfl) (fun _ _ _ h=>h) (Or.inl ⟨by rfl,?hhsxp14⟩) ?rrsxp14
       case hhsxp14=>(intro wz9;go_simp;try with_reducible rfl)
       go_simp
       refine wpAny_ready (rs:=[15]) (by kernel_rfl) (by simp) ?_;refine AllReady.cons rfl (fun K9 hK9=>?_) AllReady.nil;refine (if_pos (show Region.wanted _ _=true from rfl)).mpr ?_;refine op_storeS 123 (.tmp 48) (.tmp 42) rfl rfl rfl HST1.out ?_;refine hK9 _ _ ?_;clear hK9 K9
       go_simp
       refine wpAny_take (i:=16) (v:=(.pointer (some ⟨g,(jp+1) * 4,none⟩))) rfl (by kernel_rfl) (by kernel_rfl) (by kernel_rfl) (fun _ _ _ h=>h) (Or.inl ⟨by rfl,?hhsxp16⟩) ?rrsxp16
       case hhsxp16=>(intro wz9;go_simp;try with_reducible rfl)
       go_simp
       refine wpAny_ready (rs:=[17]) (by kernel_rfl) (by simp) ?_;refine AllReady.cons rfl (fun K9 hK9=>?_) AllReady.nil;refine (if_pos (show Region.wanted _ _=true from rfl)).mpr ?_;refine op_storeS 123 (.tmp 49) (.tmp 47) rfl rfl rfl HST2.out ?_;refine hK9 _ _ ?_;clear hK9 K9
       go_simp
       refine wpAny_done (by kernel_rfl) ?_ _
       go_wp2
       go_roundw
       case rel=>exact ⟨jp,N1',y :: N2,by first|rfl|go_num,by omega,Lib.hid (by have h1:=HJ.out;have h2:=HNN.out;exact ⟨by rw[h1.1,h2];simp,by have:=h1.2.1;rw[h2]at this;simp at this;omega,fun z hz=>by rcases List.mem_cons.1 hz with rfl|hz;exact hlv;exact h1.2.2 z hz⟩),Lib.hid (by simpa using HD2.out),(hKD.trans k1).trans k2⟩
       case measure=>simp[intOf]
      ·refine (if_pos (show Region.wanted _ _=true from rfl)).mpr ?_
       refine op_loadN 123 (.tmp 46) rfl rfl HLI.out ?_;refine hK9 _ _ ?_;clear hK9 K9
       go_simp
       refine wpAny_ready (rs:=[8]) (by kernel_rfl) (by simp) ?_;refine AllReady.cons rfl (fun K9 hK9=>?_) AllReady.nil;refine (if_pos (show Region.wanted _ _=true from rfl)).mpr ?_;refine op_loadN 123 (.tmp 41) rfl rfl HLJ.out ?_;refine hK9 _ _ ?_;clear hK9 K9
       go_simp
       refine wpAny_take (i:=14) (v:=(.pointer (some ⟨g,jp * 4,none⟩))) rfl (by kernel_rfl) (by kernel_rfl) (by kernel_rfl) (fun _ _ _ h=>h) (Or.inl ⟨by rfl,?hhsxq14⟩) ?rrsxq14
       case hhsxq14=>(intro wz9;go_simp;try with_reducible rfl)
       go_simp
       refine wpAny_ready (rs:=[15]) (by kernel_rfl) (by simp) ?_;refine AllReady.cons rfl (fun K9 hK9=>?_) AllReady.nil;refine (if_pos (show Region.wanted _ _=true from rfl)).mpr ?_;refine op_storeS 123 (.tmp 48) (.tmp 42) rfl rfl rfl HST1.out ?_;refine hK9 _ _ ?_;clear hK9 K9
       go_simp
       refine wpAny_take (i:=16) (v:=(.pointer (some ⟨g,(jp+1) * 4,none⟩))) rfl (by kernel_rfl) (by kernel_rfl) (by kernel_rfl) (fun _ _ _ h=>h) (Or.inl ⟨by rfl,?hhsxq16⟩) ?rrsxq16
       case hhsxq16=>(intro wz9;go_simp;try with_reducible rfl)
       go_simp
       refine wpAny_ready (rs:=[17]) (by kernel_rfl) (by simp) ?_;refine AllReady.cons rfl (fun K9 hK9=>?_) AllReady.nil;refine (if_pos (show Region.wanted _ _=true from rfl)).mpr ?_;refine op_storeS 123 (.tmp 49) (.tmp 47) rfl rfl rfl HST2.out ?_;refine hK9 _ _ ?_;clear hK9 K9
       go_simp
       refine wpAny_done (by kernel_rfl) ?_ _
       go_wp2
       go_roundw
       case rel=>exact ⟨jp,N1',y :: N2,by first|rfl|go_num,by omega,Lib.hid (by have h1:=HJ.out;have h2:=HNN.out;exact ⟨by rw[h1.1,h2];simp,by have:=h1.2.1;rw[h2]at this;simp at this;omega,fun z hz=>by rcases List.mem_cons.1 hz with rfl|hz;exact hlv;exact h1.2.2 z hz⟩),Lib.hid (by simpa using HD2.out),(hKD.trans k1).trans k2⟩
       case measure=>simp[intOf]
     ·have hcI:¬ (y.id:Int) > (x.id:Int):=by omega
      have hcI2:¬ (x.id:Int) < (y.id:Int):=by omega
      go_wp2
      refine wp_region_held_drew (S:=(fun wx=>Dat 123 wx g X LS∧Kept No wr wx)) (by kernel_rfl) ?_ (fun hHeld=>?_)
      ·exact ⟨hD3.kept (S:=No) ((Kept.refl No wr).drew) (fun f=>f),(Kept.refl No wr).drew⟩
      refine wtv (i:=0) (v:=?_) rfl (λwz9 hSw=>?_) ?_;rotate_left;(·(try dsimp only at hSw);go_simp;try with_reducible rfl);go_simp
      refine wtv (i:=1) (v:=(.bool true)) rfl (λwz9 hSw=>?_) ?_;(·(try dsimp only at hSw);go_simp;try with_reducible rfl);go_simp
      refine wtv (i:=2) (v:=(.bool true)) rfl (λwz9 hSw=>?_) ?_;(·(try dsimp only at hSw);go_simp;try with_reducible rfl);go_simp
      refine wtv (i:=3) (v:=(.slice (some ⟨g,0,none⟩) N c)) rfl (λwz9 hSw=>?_) ?_;(·(try dsimp only at hSw);go_simp;try with_reducible rfl);go_simp
      refine wtv (i:=4) (v:=?_) rfl (λwz9 hSw=>?_) ?_;rotate_left;(·(try dsimp only at hSw);go_simp;try with_reducible rfl);go_simp
      refine wtk (i:=5) (v:=(.int .i64 (jp:Int))) rfl (Or.inl ⟨by rfl,?hhsb5⟩) (by assumption) ?rrsb5
      case hhsb5=>(intro wz9 hSw;clear hSw;go_simp;first|done|rw[hwp]|omega)
      go_simp
      refine wtv (i:=6) (v:=(.pointer (some ⟨g,jp * 4,none⟩))) rfl (λwz9 hSw=>?_) ?_;(·(try dsimp only at hSw);go_simp;try with_reducible rfl);go_simp
      refine wtv (i:=7) (v:=(.pointer (some ⟨g,jp * 4,none⟩))) rfl (λwz9 hSw=>?_) ?_;(·(try dsimp only at hSw);go_simp;try with_reducible rfl);go_simp
      refine wtk (i:=8) (v:=(.int .u8 (y.id:Int))) rfl (Or.inl ⟨by rfl,?hhsb8⟩) (by assumption) ?rrsb8
      case hhsb8=>(intro wz9 hSw;have hc:=(HLY.out wz9 hSw.1).2;clear hSw;go_simp;try with_reducible rfl)
      go_simp
      refine wtv (i:=9) (v:=(.slice (some ⟨g,0,none⟩) N c)) rfl (λwz9 hSw=>?_) ?_;(·(try dsimp only at hSw);go_simp;try with_reducible rfl);go_simp
      refine wtv (i:=10) (v:=?_) rfl (λwz9 hSw=>?_) ?_;rotate_left;(·(try dsimp only at hSw);go_simp;try with_reducible rfl);go_simp
      refine wtv (i:=11) (v:=(.pointer (some ⟨g,(jp+1) * 4,none⟩))) rfl (λwz9 hSw=>?_) ?_;(·(try dsimp only at hSw);go_simp;try with_reducible rfl);go_simp
      refine wtv (i:=12) (v:=(.pointer (some ⟨g,(jp+1) * 4,none⟩))) rfl (λwz9 hSw=>?_) ?_;(·(try dsimp only at hSw);go_simp;try with_reducible rfl);go_simp
      refine wtk (i:=13) (v:=(.int .u8 (x.id:Int))) rfl (Or.inl ⟨by rfl,?hhsb13⟩) (by assumption) ?rrsb13
      case hhsb13=>(intro wz9 hSw;have hc:=(HLX.out wz9 hSw.1).2;clear hSw;go_simp;try with_reducible rfl)
      go_simp
      refine wtv (i:=14) (v:=(.bool false)) rfl (λwz9 hSw=>?_) ?_;(·(try dsimp only at hSw);go_simp;try with_reducible rfl);go_simp
      refine wtv (i:=15) (v:=(.bool false)) rfl (λwz9 hSw=>?_) ?_;(·(try dsimp only at hSw);go_simp;try with_reducible rfl);go_simp
      refine wpAnyH_done (by kernel_rfl) ?_ _
      go_wp2
      have HOO:=OUT.out (.inr ⟨N1',y,HNN.out,hlv⟩) wr.drew (HR4.out _ hHeld.1)
      go_roundw
      case rel=>exact ⟨i+1,M1++[x],M2',by go_num,by omega,by omega,HOO.1,HOO.2,hkw2.drew⟩
      case measure=>simp[intOf];omega
    ·have hjaz:decide ((j:Int) > 0)=false:=decide_eq_false (by omega)
     have hjaz':¬ (0:Int) < (j:Int):=by omega
     have hjzd:decide ((0:Int) < (j:Int))=false:=decide_eq_false (by omega);have h0:N1=[]:=List.length_eq_zero_iff.1 (by have:=HJ.out.2.1;omega);have HOO:=OUT.out (.inl h0) wr.drew (HR2.out.kept (S:=No) ((Kept.refl No wr).drew) (fun f=>f));have HJ0:Hid (j=0):=Lib.hid (by omega);clear h0
     go_wp2
     refine wp_region_held_drew (S:=(fun _=>True)) (by kernel_rfl) ?_ (fun hHeld=>?_)
     ·exact trivial
     refine wtv (i:=0) (v:=?_) rfl (λwz9 hSw=>?_) ?_;rotate_left;(·(try dsimp only at hSw);go_simp;try with_reducible rfl);go_simp
     refine wtv (i:=1) (v:=(.bool false)) rfl (λwz9 hSw=>?_) ?_;(·(try dsimp only at hSw);go_simp;try with_reducible rfl);go_simp
     refine wtv (i:=2) (v:=(.bool false)) rfl (λwz9 hSw=>?_) ?_;(·(try dsimp only at hSw);go_simp;try with_reducible rfl);go_simp
     refine wtu (i:=3) rfl ?_;go_simp
     refine wtu (i:=4) rfl ?_;go_simp
     refine wtu (i:=5) rfl ?_;go_simp
     refine wtu (i:=6) rfl ?_;go_simp
     refine wtu (i:=7) rfl ?_;go_simp
     refine wtu (i:=8) rfl ?_;go_simp
     refine wtu (i:=9) rfl ?_;go_simp
     refine wtu (i:=10) rfl ?_;go_simp
     refine wtu (i:=11) rfl ?_;go_simp
     refine wtu (i:=12) rfl ?_;go_simp
     refine wtu (i:=13) rfl ?_;go_simp
     refine wtu (i:=14) rfl ?_;go_simp
     refine wtv (i:=15) (v:=(.bool false)) rfl (λwz9 hSw=>?_) ?_;(·(try dsimp only at hSw);go_simp;try with_reducible rfl);go_simp
     refine wpAnyH_done (by kernel_rfl) ?_ _
     go_wp2
     go_roundw
     case rel=>exact ⟨i+1,M1++[x],M2',by go_num,by omega,by omega,HOO.1,HOO.2,hkw2.drew⟩
     case measure=>simp[intOf];omega
  ·have hltz:¬ (i:Int) < (N:Int):=by omega
   go_wp2
   go_ret
   have h1:=HM.out;have h2:=HN.out;have e2:M2=[]:=List.length_eq_zero_iff.1 (by rw[h1.1]at h2;simp at h2;omega);subst e2;have e3:M1=M:=by rw[h1.1];simp
   subst e3;refine ⟨some ⟨g,0,none⟩,c,by simp[sortL_length,← h2],?_,HK1.out.then hkw (fun i hi e=>by have:i=g:=e;omega)⟩;rw[sortL_length,← h2];exact HBK.out _ _ (by rw[sortL_length,← h2]) (by simpa using HR.out)
theorem taken_app (n:Nat) (a b:List UInt8) (h:a.length=n):taken (n:Int) (a++b) 0=a∧leftL (n:Int) (a++b) 0=b∧leftE (n:Int) (a++b) 0=0:=by
 have h1:(0:Int)≤n∧(n:Int)≤(a++b).length:=by rw[List.length_append];omega
 unfold taken leftL leftE;rw[if_pos ⟨rfl,h1⟩,if_pos rfl,if_pos h1,if_pos rfl,if_pos h1,Int.toNat_natCast];subst h;exact ⟨List.take_left,List.drop_left,rfl⟩
theorem byteOf_nat {n:Int} (h0:0≤n) (h1:n≤255):(byteOf n).toNat=n.toNat:=by have:=byteOf_val h0 h1;omega
theorem numBy (x:Nat):num [byteOf ((x:Int) % 256)]=x % 256:=by
 rw[num_one,byteOf_nat (by omega) (by omega)];omega
theorem numTw (x:Nat):num [byteOf ((x:Int) % 65536 / 256),byteOf ((x:Int) % 65536 % 256)]=x % 65536:=by
 have e:num [byteOf ((x:Int) % 65536 / 256),byteOf ((x:Int) % 65536 % 256)]=(0 * 256+(byteOf ((x:Int) % 65536 / 256)).toNat) * 256+(byteOf ((x:Int) % 65536 % 256)).toNat:=rfl;rw[e,byteOf_nat (by omega) (by omega),byteOf_nat (by omega) (by omega)];omega
theorem numFo (x:Nat) (h:x≤4294967295):num [byteOf ((x:Int) / 16777216),byteOf ((x:Int) / 65536 % 256),byteOf ((x:Int) / 256 % 256),byteOf ((x:Int) % 256)]=x:=by
 have e:num [byteOf ((x:Int) / 16777216),byteOf ((x:Int) / 65536 % 256),byteOf ((x:Int) / 256 % 256),byteOf ((x:Int) % 256)]=(((0 * 256+(byteOf ((x:Int) / 16777216)).toNat) * 256+(byteOf ((x:Int) / 65536 % 256)).toNat) * 256+(byteOf ((x:Int) / 256 % 256)).toNat) * 256+(byteOf ((x:Int) % 256)).toNat:=rfl;rw[e,byteOf_nat (by omega) (by omega),byteOf_nat (by omega) (by omega),byteOf_nat (by omega) (by omega),byteOf_nat (by omega) (by omega)];omega
theorem rv_back:∀ (f i n y:Nat) (r:List UInt8),y < 128 ^ f→(0 < i→0 < y)→0 < f→rv f i n (var7 y++r) 0=(n+y * 128 ^ i,r,0)
 | 0,_,_,_,_,_,_,h=>absurd h (by omega)
 | f+1,i,n,y,r,hy,hi,_=>by
  by_cases hl:y < 128
  ·rw[var7_lt hl,List.cons_append,List.nil_append,rv_cons_done f i n _ _ (by rw[byteOf_nat (by omega) (by omega)];omega) (by
    rw[byteOf_nat (by omega) (by omega)];intro ⟨h1,h2⟩;have:=hi h2;omega),byteOf_nat (by omega) (by omega)]
   have e:((y:Int).toNat % 128)=y:=by omega
   rw[e]
  ·have hb:(byteOf ((y:Int) % 128+128)).toNat=y % 128+128:=by rw[byteOf_nat (by omega) (by omega)];omega
   have hf:0 < f:=by
    rcases Nat.eq_zero_or_pos f with h0|h0
    ·subst h0;simp at hy;omega
    ·exact h0
   rw[var7_ge hl,List.cons_append,rv_cons_more f i n _ _ (by omega),hb,rv_back f (i+1) _ (y / 128) r (by rw[Nat.pow_succ]at hy;omega) (by omega) hf]
   have e:n+(y % 128+128) % 128 * 128 ^ i+y / 128 * 128 ^ (i+1)=n+y * 128 ^ i:=by
    rw[Nat.pow_succ,show (y % 128+128) % 128=y % 128 by omega,Nat.add_assoc,show y / 128 * (128 ^ i * 128)=(128 * (y / 128)) * 128 ^ i by
     rw[Nat.mul_comm (128 ^ i) 128,← Nat.mul_assoc,Nat.mul_comm (y / 128) 128],← Nat.add_mul,Nat.mod_add_div]
   rw[e]
theorem rv_varL (x:Nat) (r:List UInt8) (h:x≤268435455):rv 4 0 0 (varL x++r) 0=(x,r,0):=by
 unfold varL;rw[if_pos h,rv_back 4 0 0 x r (by have:=(by decide:(128:Nat) ^ 4=268435456);omega) (by omega) (by omega)];simp
theorem bin_taken (a b:UInt8) (t u:List UInt8) (h:num [a,b]=t.length):binTaken (a :: b :: (t++u)) 0=t∧binL (a :: b :: (t++u)) 0=u∧binE (a :: b :: (t++u)) 0=0:=by
 have h2:(2:Int)≤((a :: b :: (t++u)).length:Nat):=by simp;omega
 have e1:taken 2 (a :: b :: (t++u)) 0=[a,b]:=by unfold taken;rw[if_pos ⟨rfl,by omega,h2⟩];rfl
 have e2:leftL 2 (a :: b :: (t++u)) 0=t++u:=by unfold leftL;rw[if_pos rfl,if_pos ⟨by omega,h2⟩];rfl
 have e3:leftE 2 (a :: b :: (t++u)) 0=0:=by unfold leftE;rw[if_pos rfl,if_pos ⟨by omega,h2⟩]
 have h3:0≤((t.length:Nat):Int)∧((t.length:Nat):Int)≤((t++u).length:Nat):=by simp;omega
 unfold binTaken binL binE;rw[e1,e2,e3,h];exact taken_app t.length t u rfl
theorem num_two (n:Nat) (h:n≤65535):num [byteOf ((n:Int) / 256),byteOf ((n:Int) % 256)]=n:=by
 have h1:=byteOf_val (n:=(n:Int) / 256) (by omega) (by omega);have h2:=byteOf_val (n:=(n:Int) % 256) (by omega) (by omega);simp only[num,List.foldl_cons,List.foldl_nil];omega
def binBy (s:ByteArray):List UInt8:=byteOf ((s.size:Int) / 256) :: byteOf ((s.size:Int) % 256) :: s.data.toList
theorem bin_back (s:ByteArray) (r:List UInt8) (h:s.size≤65535):binTaken (binBy s++r) 0=s.data.toList∧binL (binBy s++r) 0=r∧binE (binBy s++r) 0=0:=by
 unfold binBy;exact bin_taken _ _ s.data.toList r (by rw[num_two _ h,size_list])
theorem addBin_by (l:List UInt8) (s:ByteArray):addBin l s=l++binBy s:=rfl
theorem ba_back (s:ByteArray):(⟨s.data.toList.toArray⟩:ByteArray)=s:=by cases s;simp
theorem emp_of {a:ByteArray} (h:a.size=0):a=⟨#[]⟩:=ByteArray.ext (Array.eq_empty_of_size_eq_zero h)
theorem one_id (id:Nat) (b:List UInt8) (h:id < 256):num (taken 1 (byteOf id :: b) 0)=id∧leftL 1 (byteOf id :: b) 0=b∧leftE 1 (byteOf id :: b) 0=0:=by
 obtain ⟨h1,h2,h3⟩:=one_cons (byteOf id) b;exact ⟨by rw[h1,num_one,byteOf_nat (by omega) (by omega)];omega,h2,h3⟩
theorem nextS_id (id:Nat) (b:List UInt8) (h:id < 256):nextS (byteOf id :: b) 0=typS (typL id) id b 0:=by
 obtain ⟨h1,h2,h3⟩:=one_id id b h;unfold nextS;rw[h1,h2,h3]
theorem next_lay (p:Pr) (r:List UInt8) (hw:p.wf') (hk:p.ok=true):nextS (p.lay++r) 0=(p,r,0):=by
 obtain ⟨id,n,a,b⟩:=p;obtain ⟨h8,hn,_,_⟩:=hw;dsimp only at h8 hn;have hk':rightB id n a b=true:=hk;have hf:=fits_of h8 hn hk';obtain ⟨⟨_,_,ha,hb,ht⟩,h4⟩:=hf;have ht7:=typL_le id;show nextS (layP id n a b++r) 0=_;unfold rightB at hk';unfold layP;generalize hT:typL id=t at *
 have key:∀ c,c=byteOf id :: (c.drop 1)→nextS (c++r) 0=typS t id (c.drop 1++r) 0:=fun c hc=>by
  rw[hc,List.cons_append,nextS_id id _ h8,hT];rfl
 rcases (show t=1∨t=2∨t=3∨t=4∨t=5∨t=6∨t=7 from by omega) with rfl|rfl|rfl|rfl|rfl|rfl|rfl
 ·have h:=num_facts (m:=255) hk'
  obtain rfl:=emp_of h.2.1;obtain rfl:=emp_of h.2.2;rw[if_pos rfl,key _ rfl];show typS 1 id ([byteOf ((n:Int) % 256)]++r) 0=_;obtain ⟨e1,e2,e3⟩:=taken_app 1 [byteOf ((n:Int) % 256)] r rfl;unfold typS;rw[if_pos rfl];rw[show ((1:Nat):Int)=1 from rfl]at e1 e2 e3;rw[e1,e2,e3,numBy,Nat.mod_eq_of_lt (by omega)]
 ·have h:=num_facts (m:=65535) hk'
  obtain rfl:=emp_of h.2.1;obtain rfl:=emp_of h.2.2;rw[if_neg (by decide),if_pos rfl,key _ rfl];show typS 2 id ([byteOf ((n:Int) % 65536 / 256),byteOf ((n:Int) % 65536 % 256)]++r) 0=_;obtain ⟨e1,e2,e3⟩:=taken_app 2 [byteOf ((n:Int) % 65536 / 256),byteOf ((n:Int) % 65536 % 256)] r rfl;unfold typS;rw[if_neg (by decide),if_pos rfl];rw[show ((2:Nat):Int)=2 from rfl]at e1 e2 e3;rw[e1,e2,e3,numTw,Nat.mod_eq_of_lt (by omega)]
 ·have h:=num_facts (m:=4294967295) hk'
  obtain rfl:=emp_of h.2.1;obtain rfl:=emp_of h.2.2;rw[if_neg (by decide),if_neg (by decide),if_pos rfl,key _ rfl];show typS 3 id ([byteOf ((n:Int) / 16777216),byteOf ((n:Int) / 65536 % 256),byteOf ((n:Int) / 256 % 256),byteOf ((n:Int) % 256)]++r) 0=_;obtain ⟨e1,e2,e3⟩:=taken_app 4 [byteOf ((n:Int) / 16777216),byteOf ((n:Int) / 65536 % 256),byteOf ((n:Int) / 256 % 256),byteOf ((n:Int) % 256)] r rfl;unfold typS;rw[if_neg (by decide),if_neg (by decide),if_pos rfl];rw[show ((4:Nat):Int)=4 from rfl]at e1 e2 e3;rw[e1,e2,e3,numFo n (by omega)]
 ·have h:=num_facts (m:=268435455) hk'
  obtain rfl:=emp_of h.2.1;obtain rfl:=emp_of h.2.2;rw[if_neg (by decide),if_neg (by decide),if_neg (by decide),if_pos rfl,key _ rfl];show typS 4 id (varL n++r) 0=_;unfold typS;rw[if_neg (by decide),if_neg (by decide),if_neg (by decide),if_pos rfl,rv_varL n r h.1]
 ·have h':(decide (n=0)&&(okText a&&b.toList.isEmpty))=true:=hk'
  rw[Bool.and_eq_true,Bool.and_eq_true]at h';obtain rfl:=of_decide_eq_true h'.1;obtain rfl:=emp_of (size_of_empty h'.2.2);rw[if_neg (by decide),if_neg (by decide),if_neg (by decide),if_neg (by decide),if_neg (by decide),key _ rfl];show typS 5 id (binBy a++r) 0=_;obtain ⟨e1,e2,e3⟩:=bin_back a r ha;unfold typS;rw[if_neg (by decide),if_neg (by decide),if_neg (by decide),if_neg (by decide),if_pos rfl,e1,e2,e3,ba_back]
 ·have h':(decide (n=0)&&(decide (a.size≤65535)&&b.toList.isEmpty))=true:=hk'
  rw[Bool.and_eq_true,Bool.and_eq_true]at h';obtain rfl:=of_decide_eq_true h'.1;obtain rfl:=emp_of (size_of_empty h'.2.2);rw[if_neg (by decide),if_neg (by decide),if_neg (by decide),if_neg (by decide),if_neg (by decide),key _ rfl];show typS 6 id (binBy a++r) 0=_;obtain ⟨e1,e2,e3⟩:=bin_back a r ha;unfold typS;rw[if_neg (by decide),if_neg (by decide),if_neg (by decide),if_neg (by decide),if_neg (by decide),if_pos rfl,e1,e2,e3,ba_back]
 ·have h':(decide (n=0)&&(okText a&&okText b))=true:=hk'
  rw[Bool.and_eq_true,Bool.and_eq_true]at h';obtain rfl:=of_decide_eq_true h'.1;rw[if_neg (by decide),if_neg (by decide),if_neg (by decide),if_neg (by decide),if_pos rfl,key _ rfl]
  have e0:(addBin (addBin [byteOf id] a) b).drop 1++r=binBy a++(binBy b++r):=by
   rw[addBin_by,addBin_by];simp
  rw[e0];obtain ⟨e1,e2,e3⟩:=bin_back a (binBy b++r) ha;obtain ⟨f1,f2,f3⟩:=bin_back b r hb;unfold typS;rw[if_neg (by decide),if_neg (by decide),if_neg (by decide),if_neg (by decide),if_neg (by decide),if_neg (by decide),if_pos rfl,e1,e2,e3,f1,f2,f3,ba_back,ba_back]
theorem nextK_lay (p:Pr) (r:List UInt8) (hw:p.wf') (hk:p.ok=true):nextK (p.lay++r)=true:=by
 unfold nextK;rw[next_lay p r hw hk];simp[hk]
theorem lay_ne {p:Pr} (hw:p.wf') (hk:p.ok=true):p.lay≠[]:=by
 have h1:=layP_len (Pr.fits hw hk);have h2:=szP_le (Pr.fits hw hk) (fits_of hw.hid hw.hn hk).2;intro h
 have:p.lay.length=szP p.id p.n p.a p.b:=h1
 rw[h]at this;simp at this;omega
theorem each_lay:∀ (L:List Pr),(∀ p∈L,p.wf')→(∀ p∈L,p.ok=true)→eachL (layAll L)=(L,true)
 | [],_,_=>rfl
 | p :: L,hw,hk=>by
  have e:layAll (p :: L)=p.lay++layAll L:=by simp[layAll]
  have h1:=hw p (by simp);have h2:=hk p (by simp);rw[e,eachL_cons (nextK_lay p _ h1 h2),next_lay p _ h1 h2,each_lay L (fun q hq=>hw q (by simp[hq])) (fun q hq=>hk q (by simp[hq]))]
theorem taken_inv {n:Nat} {l:List UInt8} (h:leftE n l 0=0):l=taken n l 0++leftL n l 0∧(taken n l 0).length=n:=by
 unfold leftE at h;rw[if_pos rfl]at h
 by_cases hc:0≤(n:Int)∧(n:Int)≤l.length
 ·unfold taken leftL
  rw[if_pos ⟨rfl,hc⟩,if_pos rfl,if_pos hc,Int.toNat_natCast];exact ⟨(List.take_append_drop n l).symm,by rw[List.length_take];omega⟩
 ·rw[if_neg hc]at h
  cases h
theorem leftE_of {n:Int} {l:List UInt8} {e:Int} (h:leftE n l e=0):e=0:=by
 unfold leftE at h
 split at h
 ·assumption
 ·exact h
theorem byteOf_toNat (c:UInt8):byteOf (c.toNat:Int)=c:=by
 apply UInt8.toNat_inj.1
 have:=c.toNat_lt
 rw[byteOf_nat (by omega) (by omega)];omega
theorem byteOf_is {x:Int} {c:UInt8} (h:x=(c.toNat:Int)):byteOf x=c:=by subst h;exact byteOf_toNat c
theorem one_inv {t:List UInt8} (h:t.length=1):[byteOf ((num t:Int) % 256)]=t:=by
 match t,h with
 | [c],_ =>
  have:=c.toNat_lt
  rw[num_one,byteOf_is (c:=c) (by omega)]
theorem two_inv {t:List UInt8} (h:t.length=2):[byteOf ((num t:Int) % 65536 / 256),byteOf ((num t:Int) % 65536 % 256)]=t∧[byteOf ((num t:Int) / 256),byteOf ((num t:Int) % 256)]=t:=by
 match t,h with
 | [c,d],_ =>
  have h1:=c.toNat_lt;have h2:=d.toNat_lt;have e:num [c,d]=(0 * 256+c.toNat) * 256+d.toNat:=rfl;rw[e,byteOf_is (c:=c) (by omega),byteOf_is (c:=d) (by omega),byteOf_is (c:=c) (by omega),byteOf_is (c:=d) (by omega)];exact ⟨rfl,rfl⟩
theorem four_inv {t:List UInt8} (h:t.length=4):[byteOf ((num t:Int) / 16777216),byteOf ((num t:Int) / 65536 % 256),byteOf ((num t:Int) / 256 % 256),byteOf ((num t:Int) % 256)]=t:=by
 match t,h with
 | [a,b,c,d],_ =>
  have h1:=a.toNat_lt;have h2:=b.toNat_lt;have h3:=c.toNat_lt;have h4:=d.toNat_lt;have e:num [a,b,c,d]=(((0 * 256+a.toNat) * 256+b.toNat) * 256+c.toNat) * 256+d.toNat:=rfl;rw[e,byteOf_is (c:=a) (by omega),byteOf_is (c:=b) (by omega),byteOf_is (c:=c) (by omega),byteOf_is (c:=d) (by omega)]
theorem rv_inv {l:List UInt8} (h:(rv 4 0 0 l 0).2.2=0):l=varL (rv 4 0 0 l 0).1++(rv 4 0 0 l 0).2.1∧(rv 4 0 0 l 0).1≤268435455:=by
 have hlt:=rv_lt 4 0 0 l 0 (by decide);have e4:(128:Nat) ^ (0+4)=268435456:=by decide
 rw[e4]at hlt;generalize hR:rv 4 0 0 l 0=R at *;obtain ⟨x,l',e⟩:=R;dsimp only at h hlt ⊢;subst h;obtain ⟨y,h1,h2,_⟩:=rv_var7 4 0 0 l x l' hR;have hy:y=x:=by simpa using h1.symm
 subst hy;refine ⟨?_,by omega⟩;unfold varL;rw[if_pos (by omega)];exact h2
theorem bin_inv {l:List UInt8} (h:binE l 0=0):l=binBy ⟨(binTaken l 0).toArray⟩++binL l 0:=by
 unfold binE at h;have h0:=leftE_of h;have h1:=taken_inv (n:=2) h0;rw[show ((2:Nat):Int)=2 from rfl]at h1;rw[h0]at h;have h2:=taken_inv h
 have hs:(⟨(binTaken l 0).toArray⟩:ByteArray).size=num (taken 2 l 0):=by
  rw[ba_size];unfold binTaken;rw[h0];exact h2.2
 unfold binBy;rw[hs];have h3:=(two_inv h1.2).2
 have e:byteOf ((num (taken 2 l 0):Int) / 256) :: byteOf ((num (taken 2 l 0):Int) % 256) :: ((⟨(binTaken l 0).toArray⟩:ByteArray).data.toList)=taken 2 l 0++binTaken l 0:=by
  conv=>rhs;rw[← h3]
  simp
 rw[e];unfold binTaken binL;rw[h0,List.append_assoc,← h2.1];exact h1.1
theorem next_inv {l:List UInt8} (h:nextK l=true):l=(nextS l 0).1.lay++(nextS l 0).2.1∧(nextS l 0).1.ok=true:=by
 unfold nextK at h;rw[Bool.and_eq_true]at h;have he:=of_decide_eq_true h.1;have hk:=h.2;refine ⟨?_,hk⟩;have hne:l≠[]:=nextK_ne (by unfold nextK;rw[Bool.and_eq_true];exact h)
 obtain ⟨c,t,rfl⟩:∃ c t,l=c :: t:=by cases l with
  | nil=>exact absurd rfl hne
  | cons c t=>exact ⟨c,t,rfl⟩
 have hc:c=byteOf (c.toNat:Int):=(byteOf_toNat c).symm;have h8:=c.toNat_lt
 have hn:nextS (c :: t) 0=typS (typL c.toNat) c.toNat t 0:=by
  conv=>lhs;rw[hc]
  exact nextS_id c.toNat t h8
 rw[hn]at he hk ⊢;have hid:=typS_id (typL c.toNat) c.toNat t 0
 have ht:typL c.toNat≠0:=fun h0=>by
  have:rightB (typS (typL c.toNat) c.toNat t 0).1.id (typS (typL c.toNat) c.toNat t 0).1.n (typS (typL c.toNat) c.toNat t 0).1.a (typS (typL c.toNat) c.toNat t 0).1.b=true:=hk
  rw[hid]at this;unfold rightB at this;rw[h0]at this;simp[rightT]at this
 have ht7:=typL_le c.toNat;clear hn hid hk h
 suffices hs:t=((typS (typL c.toNat) c.toNat t 0).1.lay).drop 1++(typS (typL c.toNat) c.toNat t 0).2.1∧(typS (typL c.toNat) c.toNat t 0).1.lay=c :: ((typS (typL c.toNat) c.toNat t 0).1.lay).drop 1 by
  rw[hs.2,List.cons_append,← hs.1]
 have hlay:(typS (typL c.toNat) c.toNat t 0).1.lay=layP c.toNat (typS (typL c.toNat) c.toNat t 0).1.n (typS (typL c.toNat) c.toNat t 0).1.a (typS (typL c.toNat) c.toNat t 0).1.b:=by
  unfold Pr.lay;rw[typS_id]
 rw[hlay];clear hlay;unfold layP;generalize hT:typL c.toNat=T at *;rcases (show T=1∨T=2∨T=3∨T=4∨T=5∨T=6∨T=7 from by omega) with rfl|rfl|rfl|rfl|rfl|rfl|rfl
 ·have he':leftE 1 t 0=0:=he
  have h1:=taken_inv (n:=1) he';rw[show ((1:Nat):Int)=1 from rfl]at h1;rw[if_pos rfl];refine ⟨?_,by rw[hc];simp[addByte,byteOf_toNat]⟩;show t=[byteOf ((num (taken 1 t 0):Int) % 256)]++leftL 1 t 0;rw[one_inv h1.2];exact h1.1
 ·have he':leftE 2 t 0=0:=he
  have h1:=taken_inv (n:=2) he';rw[show ((2:Nat):Int)=2 from rfl]at h1;rw[if_neg (by decide),if_pos rfl];refine ⟨?_,by rw[hc];simp[addTwo,byteOf_toNat]⟩;show t=[byteOf ((num (taken 2 t 0):Int) % 65536 / 256),byteOf ((num (taken 2 t 0):Int) % 65536 % 256)]++leftL 2 t 0;rw[(two_inv h1.2).1];exact h1.1
 ·have he':leftE 4 t 0=0:=he
  have h1:=taken_inv (n:=4) he';rw[show ((4:Nat):Int)=4 from rfl]at h1;rw[if_neg (by decide),if_neg (by decide),if_pos rfl];refine ⟨?_,by rw[hc];simp[addFour,byteOf_toNat]⟩;show t=[byteOf ((num (taken 4 t 0):Int) / 16777216),byteOf ((num (taken 4 t 0):Int) / 65536 % 256),byteOf ((num (taken 4 t 0):Int) / 256 % 256),byteOf ((num (taken 4 t 0):Int) % 256)]++leftL 4 t 0;rw[four_inv h1.2];exact h1.1
 ·have he':(rv 4 0 0 t 0).2.2=0:=he
  have h1:=rv_inv he';rw[if_neg (by decide),if_neg (by decide),if_neg (by decide),if_pos rfl];refine ⟨?_,by rw[hc];simp[addVar,byteOf_toNat]⟩;show t=varL (rv 4 0 0 t 0).1++(rv 4 0 0 t 0).2.1;exact h1.1
 ·have he':binE t 0=0:=he
  have h1:=bin_inv he';rw[if_neg (by decide),if_neg (by decide),if_neg (by decide),if_neg (by decide),if_neg (by decide)];exact ⟨h1,by rw[hc];simp[addBin,byteOf_toNat]⟩
 ·have he':binE t 0=0:=he
  have h1:=bin_inv he';rw[if_neg (by decide),if_neg (by decide),if_neg (by decide),if_neg (by decide),if_neg (by decide)];exact ⟨h1,by rw[hc];simp[addBin,byteOf_toNat]⟩
 ·have he':binE (binL t 0) (binE t 0)=0:=he
  have h0:binE t 0=0:=leftE_of (leftE_of he');have h1:=bin_inv h0;rw[h0]at he';have h2:=bin_inv he';rw[if_neg (by decide),if_neg (by decide),if_neg (by decide),if_neg (by decide),if_pos rfl];refine ⟨?_,by rw[hc];simp[addBin,byteOf_toNat]⟩
  have e0:∀ x y:ByteArray,(addBin (addBin [byteOf (c.toNat:Int)] x) y).drop 1=binBy x++binBy y:=fun x y=>by
   rw[addBin_by,addBin_by];simp
  rw[e0];show t=(binBy ⟨(binTaken t 0).toArray⟩++binBy ⟨(binTaken (binL t 0) (binE t 0)).toArray⟩)++binL (binL t 0) (binE t 0);rw[h0,List.append_assoc,← h2];exact h1
theorem each_inv:∀ (k:Nat) (l:List UInt8),l.length≤k→(eachL l).2=true→l=layAll (eachL l).1∧(∀ p∈(eachL l).1,p.ok=true∧p.sm)
 | 0,l,hk,_=>by
  obtain rfl:l=[]:=List.length_eq_zero_iff.1 (by omega);exact ⟨rfl,by simp[eachL_nil]⟩
 | k+1,l,hk,h=>by
  by_cases h0:l=[]
  ·subst h0
   exact ⟨rfl,by simp[eachL_nil]⟩
  ·by_cases hn:nextK l=true
   ·have hlt:=next_lt hn
    rw[eachL_cons hn]at h ⊢;obtain ⟨h1,h2⟩:=each_inv k (nextS l 0).2.1 (by omega) h;have h3:=next_inv hn;refine ⟨?_,?_⟩
    ·show l=(nextS l 0).1.lay++layAll _
     rw[← h1];exact h3.1
    ·intro p hp
     rcases List.mem_cons.1 hp with rfl|hp
     ·exact ⟨h3.2,nextS_sm l 0⟩
     ·exact h2 p hp
   ·rw[eachL_bad h0 (by simpa using hn)]at h
    cases h
theorem Pr.sm.wf' {p:Pr} (h:p.sm):p.wf':=⟨h.hid,h.hn,by have:=h.ha;omega,by have:=h.hb;omega⟩
theorem layAll_perm {L M:List Pr} (h:L.Perm M):(layAll L).length=(layAll M).length:=by
 unfold layAll;exact (h.flatMap_right _).length_eq
theorem layAll_sort (L:List Pr):(layAll (sortL L)).length=(layAll L).length:=layAll_perm (sortL_perm L)
theorem take_inv {l:List UInt8} (h:takeErr l 0=0):l=varL (takeSec l 0).length++(takeSec l 0++takeLeft l 0)∧(takeSec l 0).length≤268435455:=by
 unfold takeErr at h;have h0:=leftE_of h;have h1:=rv_inv h0;rw[h0]at h;have h2:=taken_inv h;have hs:(takeSec l 0).length=(rv 4 0 0 l 0).1:=by unfold takeSec;rw[h0];exact h2.2
 rw[hs];refine ⟨?_,h1.2⟩;unfold takeSec takeLeft;rw[h0,← h2.1];exact h1.1
theorem take_back (s r:List UInt8) (h:s.length≤268435455):takeSec (varL s.length++(s++r)) 0=s∧takeLeft (varL s.length++(s++r)) 0=r∧takeErr (varL s.length++(s++r)) 0=0:=by
 unfold takeSec takeLeft takeErr;rw[rv_varL _ _ h];exact taken_app s.length s r rfl
theorem take_put {L:List Pr} {n:Nat} (l r:List UInt8) (hw:∀ p∈L,p.wf') (h:lenGo L 0=some n):putL l L++r=l++(varL n++(layAll L++r))∧takeR (varL n++(layAll L++r)) 0=(sortL L,true)∧takeLeft (varL n++(layAll L++r)) 0=r∧takeErr (varL n++(layAll L++r)) 0=0∧takeSec (varL n++(layAll L++r)) 0=layAll L:=by
 obtain ⟨hok,hlen,hn⟩:=lenGo_some L 0 n hw h (by omega);have hlen':n=(layAll L).length:=by omega
 obtain ⟨h1,h2,h3⟩:=take_back (layAll L) r (by omega);refine ⟨?_,?_⟩
 ·unfold putL
  rw[h];simp[addVar]
 ·rw[hlen']
  refine ⟨?_,h2,h3,h1⟩;unfold takeR;rw[h3,h1,each_lay L hw hok];simp
def Fewp (L:List Pr):Prop:=L.length≤30∧∀ p∈L,p.a.size≤200∧p.b.size≤200
theorem Fewp.wf {L:List Pr} (h:Fewp L) (hw:∀ p∈L,p.id < 256∧p.n < 4294967296):∀ p∈L,p.wf':=fun p hp=>⟨(hw p hp).1,(hw p hp).2,by have:=h.2 p hp;omega,by have:=h.2 p hp;omega⟩
end Go.Proofs.YtohmcfmcbibbcaaGreatDoor
