import Derived.Test.YtofjhopecfmbcaaGreatDoorYF5
import Derived.Test.YtofjhopecfmbcaaGreatDoorYF6
import Derived.Test.YtofjhopecfmbcaaGreatDoorYF7
import Derived.Test.YtofjhopecfmbcaaGreatDoorYFN
import Derived.Test.YtofjhopecfmbcaaGreatDoorYF3
namespace Go.Proofs.YtofjhopecfmbcaaGreatDoor
open Go.RowKit
set_option linter.unusedVariables false
set_option linter.unusedSimpArgs false
set_option maxRecDepth 100000
def Blks (s:Nat) (Bs:List (List Pr)):Prop:=∀ B∈Bs,B.length=s∧Srt B
theorem Blks.snoc {s:Nat} {Bs:List (List Pr)} {B:List Pr} (h:Blks s Bs) (h1:B.length=s) (h2:Srt B):Blks s (Bs++[B]):=fun C hC=>by
 rcases List.mem_append.1 hC with hC|hC
 ·exact h C hC
 ·rw[List.mem_singleton.1 hC];exact ⟨h1,h2⟩
theorem flat_snoc (Bs:List (List Pr)) (B:List Pr):(Bs++[B]).flatten=Bs.flatten++B:=by simp
structure Rst (L:List Pr) (s:Nat) (Bs:List (List Pr)) (R:List Pr):Prop where
 blks:Blks s Bs
 ste:Ste L (Bs.flatten++R)
 len:Bs.flatten.length+R.length=L.length
theorem Rst.done {L:List Pr} {s:Nat} {Bs:List (List Pr)} {R:List Pr} (h:Rst L s Bs R) (hR:Srt R) (hs:L.length≤s):sortL L=Bs.flatten++R:=by
 refine sortL_eq ?_ h.ste;cases Bs with
 | nil=>simpa using hR
 | cons B t =>
  have h1:=h.len;have h2:=(h.blks B (by simp)).1;simp at h1;have e1:R=[]:=List.length_eq_zero_iff.1 (by omega);have e2:t.flatten=[]:=List.length_eq_zero_iff.1 (by rw[List.length_flatten];omega);rw[List.flatten_cons,e1,e2];simpa using (h.blks B (by simp)).2
theorem ste_mid {L A M M' S:List Pr} (h:Ste L (A++(M++S))) (k:Ste M M'):Ste L (A++(M'++S)):=h.trans ((Ste.refl A).append (k.append (Ste.refl S)))
set_option maxHeartbeats 8000000 in
theorem stable_any (g c:Nat) (X:List Value) (L:List Pr) (N:Nat) (hN:N=L.length) (hNb:N≤100000) (w:World) (hd:Dat 95 w g X L) :
  Calls Tryz.prog 188 #[.slice (some ⟨g,0,none⟩) N c,.int .i64 N,.func (.func 176) #[] #[]] w (Turns 95 g X (sortL L) w):=by
 have HD:=Lib.hid hd;have HN:=Lib.hid hN;clear hd hN
 go_enter Tryz.func188,Tryz.ntmps188
 go_wp2
 go_loopw [7,8] (fun x y wr=>∃ (A B:Nat) (Bs:List (List Pr)) (R:List Pr),x=.int .i64 A∧y=.int .i64 B∧A+20≤B∧B≤A+20∧A≤N∧Hid (Rst L 20 Bs R∧A=Bs.flatten.length)∧Hid (Dat 95 wr g X (Bs.flatten++R))∧Kept (One g) w wr) (fun x _ _=>N - (intOf x).toNat)
 case atStart=>exact ⟨0,20,[],L,rfl,rfl,by omega,by omega,by omega,Lib.hid ⟨⟨by intro B hB;simp at hB,by simpa using Ste.refl L,by simp⟩,rfl⟩,Lib.hid (by simpa using HD.out),Kept.refl _ _⟩
 case round =>
  obtain ⟨A,B,Bs,R,rfl,rfl,hB1,hB2,hAN,HS,HR,hkw⟩:=hrel
  by_cases hlt:B≤N
  ·have hltI:(B:Int)≤(N:Int):=by omega
   have hBb:(B:Int)≤100000:=by omega
   obtain ⟨R1,R2,hR12,hl1,hl2⟩:=split_at (L:=R) (k:=20) (by have h1:=HS.out.1.len;have h2:=HS.out.2;have h3:=HN.out;omega);have HRR:Hid (R=R1++R2∧R1.length=20):=Lib.hid ⟨hR12,hl1⟩;clear hR12 hl1 hl2
   go_wp2_with (go_at_call 195;refine (ins_any g c X Bs.flatten R1 R2 N A B (by have h1:=HS.out.1.len;have h2:=HN.out;rw[HRR.out.1,List.length_append]at h1;omega) HS.out.2 (by have:=HRR.out;have:=HS.out.2;omega) hNb _ (by have:=HR.out;rwa [HRR.out.1]at this)).mono ?_;rintro e w2 ⟨rfl,hd2,hk2⟩)
   go_roundw
   case rel=>exact ⟨B,B+20,Bs++[sortL R1],R2,rfl,by go_num,by omega,by omega,hlt,Lib.hid ⟨⟨HS.out.1.blks.snoc (by rw[sortL_length];exact HRR.out.2) (sortL_srt R1),by have:=HS.out.1.ste;rw[HRR.out.1]at this;rw[flat_snoc,List.append_assoc];exact ste_mid this (sortL_ste R1),by have h1:=HS.out.1.len;rw[HRR.out.1,List.length_append]at h1;rw[flat_snoc,List.length_append,sortL_length];omega⟩,by rw[flat_snoc,List.length_append,sortL_length];have h1:=HRR.out.2;have h2:=HS.out.2;omega⟩,Lib.hid (by rw[flat_snoc,List.append_assoc];exact hd2),hkw.trans hk2⟩
   case measure=>simp[intOf];omega
  ·have hltI:¬ (B:Int)≤(N:Int):=by omega
   go_wp2_with (go_at_call 195;refine (ins_any g c X Bs.flatten R [] N A N (by have h1:=HS.out.1.len;have h2:=HN.out;rw[List.length_nil];omega) HS.out.2 (by have h1:=HS.out.1.len;have h2:=HN.out;omega) hNb _ (by simpa using HR.out)).mono ?_;rintro e w2 ⟨rfl,hd2,hk2⟩)
   have HR2:Hid (Dat 95 w2 g X (Bs.flatten++sortL R)):=Lib.hid (by simpa using hd2);have HS2:Hid (Rst L 20 Bs (sortL R)):=Lib.hid ⟨HS.out.1.blks,by have:=HS.out.1.ste;have h2:=ste_mid (S:=[]) (M:=R) (M':=sortL R) (by simpa using this) (sortL_ste R);simpa using h2,by rw[sortL_length];exact HS.out.1.len⟩;have HSR:Hid (Srt (sortL R)∧(sortL R).length < 20):=Lib.hid ⟨sortL_srt R,by rw[sortL_length];have h1:=HS.out.1.len;have h2:=HN.out;have h3:=HS.out.2;omega⟩;have hkw2:=hkw.trans hk2;clear hd2 HR HS hkw hk2;generalize sortL R=R0 at *;generalize w2=wS at *
   go_loopw [6] (fun x wr=>∃ (s:Nat) (Bs:List (List Pr)) (R:List Pr),x=.int .i64 s∧20≤s∧s≤200000∧Hid (Rst L s Bs R)∧Hid (Srt R∧R.length < s)∧Hid (Dat 95 wr g X (Bs.flatten++R))∧Kept (One g) w wr) (fun x _=>N - (intOf x).toNat)
   case atStart=>exact ⟨20,Bs,R0,rfl,by omega,by omega,HS2,HSR,HR2,hkw2⟩
   case round =>
    clear HS2 HSR HR2 hkw2;obtain ⟨s,Bs,R,rfl,hs20,hs2,HS,HSR,HR,hkw⟩:=hrel
    by_cases hlt2:s < N
    ·have hlt2I:(s:Int) < (N:Int):=by omega
     obtain ⟨s2,hs2e⟩:∃ s2,s2=2 * s:=⟨_,rfl⟩
     have hs2I:2 * (s:Int)=(s2:Int):=by omega
     have hs2J:(s:Int) * 2=(s2:Int):=by omega
     have hs2lo:2 * s≤s2:=by omega
     have hs2hi:s2≤2 * s:=by omega
     have hs2b:(s2:Int)≤200000:=by omega
     have HS2E:=Lib.hid hs2e;clear hs2e
     go_wp2
     go_loopw [7,8] (fun x y wr=>∃ (A B:Nat) (Cs Ds:List (List Pr)),x=.int .i64 A∧y=.int .i64 B∧A+s2≤B∧B≤A+s2∧A≤N∧Hid (Blks s2 Cs∧True∧Blks s Ds∧Ste L (Cs.flatten++(Ds.flatten++R))∧A=Cs.flatten.length∧A+Ds.flatten.length+R.length=N)∧Hid (Dat 95 wr g X (Cs.flatten++(Ds.flatten++R)))∧Kept (One g) w wr) (fun x _ _=>N - (intOf x).toNat)
     case atStart=>exact ⟨0,s2,[],Bs,rfl,by first|rfl|simp,by omega,by omega,by omega,Lib.hid ⟨by intro B hB;simp at hB,trivial,HS.out.blks,by simpa using HS.out.ste,rfl,by have h1:=HS.out.len;have h2:=HN.out;omega⟩,Lib.hid (by simpa using HR.out),hkw⟩
     case round =>
      obtain ⟨A,B,Cs,Ds,rfl,rfl,hB1,hB2,hAN,HQ,HR2,hkw3⟩:=hrel;obtain ⟨q,hq⟩:∃ q,q=A+s:=⟨_,rfl⟩
      have hqI:(A:Int)+(s:Int)=(q:Int):=by omega
      have hqb:(q:Int)≤300000:=by omega
      have HQE:=Lib.hid hq
      by_cases hlt3:B≤N
      ·have hlt3I:(B:Int)≤(N:Int):=by omega
       have hBb:(B:Int)≤100000:=by omega
       obtain ⟨B1,B2,Es,hDs⟩:∃ B1 B2 Es,Ds=B1 :: B2 :: Es:=by
        have h9:=HQ.out.2.2.2.2.2;have h8:=HSR.out.2;cases Ds with
        | nil=>exfalso;rw[List.flatten_nil,List.length_nil]at h9;omega
        | cons B1 t =>
         have hb1:=(HQ.out.2.2.1 B1 (by simp)).1;cases t with
         | nil=>exfalso;rw[List.flatten_cons,List.flatten_nil,List.append_nil]at h9;omega
         | cons B2 Es=>exact ⟨B1,B2,Es,rfl⟩
       subst hDs;have HB:Hid (B1.length=s∧Srt B1∧B2.length=s∧Srt B2):=Lib.hid ⟨(HQ.out.2.2.1 B1 (by simp)).1,(HQ.out.2.2.1 B1 (by simp)).2,(HQ.out.2.2.1 B2 (by simp)).1,(HQ.out.2.2.1 B2 (by simp)).2⟩;have HLN:Hid (A+(s+s+Es.flatten.length)+R.length=N):=Lib.hid (by have h9:=HQ.out.2.2.2.2.2;have h8:=HB.out;rw[List.flatten_cons,List.flatten_cons,List.length_append,List.length_append]at h9;omega);clear hq
       go_wp2_with (go_at_call 196;refine (symmerge_any g c X N hNb Cs.flatten B1 B2 (Es.flatten++R) A q B _ ⟨by have:=HLN.out;have:=HB.out;have:=HQ.out.2.2.2.2.1;rw[List.length_append];omega,HQ.out.2.2.2.2.1,by have:=HQE.out;have:=HB.out;have:=HQ.out.2.2.2.2.1;omega,by have:=HB.out;have:=HQ.out.2.2.2.2.1;have:=HS2E.out;omega,by have:=HB.out;omega,by have:=HB.out;omega,HB.out.2.1,HB.out.2.2.2⟩ (by simpa using HR2.out)).mono ?_;rintro e w3 ⟨rfl,hd3,hk3⟩)
       go_roundw
       case rel=>exact ⟨B,B+s2,Cs++[sortL (B1++B2)],Es,rfl,by go_num,by omega,by omega,hlt3,Lib.hid ⟨HQ.out.1.snoc (by rw[sortL_length,List.length_append];have:=HB.out;have:=HS2E.out;omega) (sortL_srt _),trivial,fun C hC=>HQ.out.2.2.1 C (by simp[hC]),by have:=HQ.out.2.2.2.1;rw[flat_snoc,List.append_assoc];exact ste_mid (M:=B1++B2) (by simpa using this) (sortL_ste _),by rw[flat_snoc,List.length_append,sortL_length,List.length_append];have:=HB.out;have:=HQ.out.2.2.2.2.1;have:=HS2E.out;omega,by have:=HLN.out;have:=HS2E.out;omega⟩,Lib.hid (by rw[flat_snoc,List.append_assoc];exact hd3),hkw3.trans hk3⟩
       case measure=>simp[intOf];omega
      ·have hlt3I:¬ (B:Int)≤(N:Int):=by omega
       have HF:Hid (Srt (Ds.flatten++R)∨(∃ D,Ds=[D]∧0 < R.length∧D.length=s∧Srt D)):=Lib.hid (by
        have h9:=HQ.out.2.2.2.2.2;have h8:=HSR.out.2;cases Ds with
        | nil=>exact .inl (by simpa using HSR.out.1)
        | cons D1 t =>
         have hb1:=HQ.out.2.2.1 D1 (by simp);cases t with
         | nil =>
          rcases Nat.eq_zero_or_pos R.length with h0|h0
          ·left
           rw[List.length_eq_zero_iff.1 h0];simpa using hb1.2
          ·exact .inr ⟨D1,rfl,h0,hb1.1,hb1.2⟩
         | cons D2 Es =>
          exfalso;have hb2:=(HQ.out.2.2.1 D2 (by simp)).1;rw[List.flatten_cons,List.flatten_cons,List.length_append,List.length_append]at h9;omega)
       have HLD:Hid (Ds.flatten.length+R.length < s2):=Lib.hid (by have h9:=HQ.out.2.2.2.2.2;omega);have HNX:Hid (∀ R',Ste (Ds.flatten++R) R'→R'.length=Ds.flatten.length+R.length→Rst L s2 Cs R'):=Lib.hid (fun R' hst hl=>⟨HQ.out.1,by have h1:=HQ.out.2.2.2.1;exact h1.trans ((Ste.refl _).append hst),by have h9:=HQ.out.2.2.2.2.2;have:=HQ.out.2.2.2.2.1;have:=HN.out;omega⟩)
       by_cases hm:q < N
       ·have hmI:(q:Int) < (N:Int):=by omega
        have HD1:Hid (∃ D,Ds=[D]∧0 < R.length∧D.length=s∧Srt D):=Lib.hid (by
         have h9:=HQ.out.2.2.2.2.2;have h7:=HQE.out;cases Ds with
         | nil=>exfalso;rw[List.flatten_nil,List.length_nil]at h9;have:=HSR.out.2;omega
         | cons D1 t =>
          have hb1:=HQ.out.2.2.1 D1 (by simp);cases t with
          | nil=>rw[List.flatten_cons,List.flatten_nil,List.append_nil]at h9;exact ⟨D1,rfl,by omega,hb1.1,hb1.2⟩
          | cons D2 Es =>
           exfalso;have hb2:=(HQ.out.2.2.1 D2 (by simp)).1;rw[List.flatten_cons,List.flatten_cons,List.length_append,List.length_append]at h9;omega)
        obtain ⟨D,hDs,hR0,hDl,hDs2⟩:=HD1.out;subst hDs;have HDD:Hid (0 < R.length∧D.length=s∧Srt D):=Lib.hid ⟨hR0,hDl,hDs2⟩;have HLN:Hid (A+s+R.length=N):=Lib.hid (by have h9:=HQ.out.2.2.2.2.2;rw[List.flatten_cons,List.flatten_nil,List.append_nil]at h9;omega);clear hq hR0 hDl hDs2 HD1 HF
        go_wp2_with (go_at_call 196;refine (symmerge_any g c X N hNb Cs.flatten D R [] A q N _ ⟨by have:=HLN.out;have:=HDD.out;have:=HQ.out.2.2.2.2.1;rw[List.length_nil];omega,HQ.out.2.2.2.2.1,by have:=HQE.out;have:=HDD.out;have:=HQ.out.2.2.2.2.1;omega,by have:=HDD.out;have:=HQ.out.2.2.2.2.1;have:=HLN.out;omega,by have:=HDD.out;omega,HDD.out.1,HDD.out.2.2,HSR.out.1⟩ (by simpa using HR2.out)).mono ?_;rintro e w3 ⟨rfl,hd3,hk3⟩)
        go_roundw
        case rel=>exact ⟨s2,Cs,sortL (D++R),by first|rfl|go_num,by omega,by omega,Lib.hid (HNX.out _ (by simpa using sortL_ste (D++R)) (by rw[sortL_length];simp)),Lib.hid ⟨sortL_srt _,by rw[sortL_length];have:=HLD.out;simpa using this⟩,Lib.hid (by simpa using hd3),hkw3.trans hk3⟩
        case measure=>simp[intOf];omega
       ·have hmI:¬ (q:Int) < (N:Int):=by omega
        have HFS:Hid (Srt (Ds.flatten++R)):=Lib.hid (by
         rcases HF.out with h|⟨D,h1,h2,h3,h4⟩
         ·exact h
         ·exfalso
          have h9:=HQ.out.2.2.2.2.2;rw[h1,List.flatten_cons,List.flatten_nil,List.append_nil]at h9
          have:=HQE.out
          omega)
        clear hq HF
        go_wp2
        go_roundw
        case rel=>exact ⟨s2,Cs,Ds.flatten++R,by first|rfl|go_num,by omega,by omega,Lib.hid (HNX.out _ (Ste.refl _) (by rw[List.length_append])),Lib.hid ⟨HFS.out,by rw[List.length_append];exact HLD.out⟩,HR2,hkw3⟩
        case measure=>simp[intOf];omega
    ·have hlt2I:¬ (s:Int) < (N:Int):=by omega
     have HFIN:Hid (sortL L=Bs.flatten++R):=Lib.hid (HS.out.done HSR.out.1 (by have:=HN.out;omega))
     go_wp2
     first|go_end0|go_ret
     exact ⟨rfl,by rw[HFIN.out];exact HR.out,hkw⟩
theorem dat_of_own {w:World} {t:TypeId} {base n c:Nat} {a:Option Addr} {L:List Pr} (h:w.ownsRow base t 4 (.slice a n c) n (PC L)) (h0:0 < n) (hl:n=L.length) :
  ∃ g X,a=some ⟨g,0,none⟩∧base≤g∧n≤c∧Dat t w g X L∧(∀ L' w',L'.length=n→Dat t w' g X L'→w'.ownsRow base t 4 (.slice a n c) n (PC L')):=by
 rcases h.2 with ⟨hv,h9⟩|⟨g,cap,cur,hv,hg,hb,hn,hm,hs,hx⟩
 ·omega
 ·injection hv with e1 e2 e3
  subst e1 e3
  have hcur:cur=(PC L++cur.toList.drop (n * 4)).toArray:=by
   rw[← hx,List.take_append_drop]
  refine ⟨g,cur.toList.drop (n * 4),rfl,hg,hn,?_,?_⟩
  ·unfold Dat Blk
   rw[← hcur];exact hb
  ·intro L' w' hl' hd
   refine ⟨by rw[PC_length,hl'],.inr ⟨g,c,_,rfl,hg,hd,hn,hm,?_,?_⟩⟩
   ·have:cur.toList.length=c * 4:=by rw[Array.length_toList];exact hs
    have hnc:n * 4≤c * 4:=Nat.mul_le_mul_right 4 hn;simp only[List.size_toArray,List.length_append,List.length_drop,PC_length,hl'];omega
   ·have e:n * 4=(PC L').length:=by rw[PC_length,hl']
    rw[e];simp
theorem stablefunc_any (g c:Nat) (X:List Value) (L:List Pr) (N:Nat) (hN:N=L.length) (hNb:N≤100000) (w:World) (hd:Dat 95 w g X L) :
  Calls Tryz.prog 175 #[.slice (some ⟨g,0,none⟩) N c,.func (.func 176) #[] #[]] w (Turns 95 g X (sortL L) w):=by
 have H:=Lib.hid (stable_any g c X L N hN hNb w hd);clear hN hd
 go_enter Tryz.func175,Tryz.ntmps175
 go_wp2_with (go_at_call 188;refine H.out.mono ?_;rintro e w2 ⟨rfl,hd2,hk2⟩)
 first|go_end0|go_ret
 exact ⟨rfl,hd2,hk2⟩
theorem sort_any (X:List Pr) (h:X.length≤100000):SortAt X:=by
 by_cases h1:X.length≤1
 ·exact sort_small X h1
 intro a c w hr hn;have cC:=Lib.hid (pclone_any a c X w hr hn h);have HS:Hid (∀ (g c:Nat) (Y:List Value) (wx:World),Dat 95 wx g Y X→Calls Tryz.prog 175 #[.slice (some ⟨g,0,none⟩) X.length c,.func (.func 176) #[] #[]] wx (Turns 95 g Y (sortL X) wx)):=Lib.hid (fun g c Y wx hd=>stablefunc_any g c Y X X.length rfl h wx hd);have HX1:=Lib.hid h1;clear hr hn h1
 go_enter Tryz.func159,Tryz.ntmps159
 go_wp2_with (go_at_call 174;refine cC.out.mono ?_;rintro e w1 ⟨a1,c1,rfl,hown,hk1⟩;obtain ⟨g,Y,ha1,hg,hnc,hd,hback⟩:=dat_of_own hown (by have:=HX1.out;omega) rfl;subst ha1)
 have HB:=Lib.hid hback;clear hback
 go_wp2_with (go_at_call 175;refine (HS.out _ _ _ _ hd).mono ?_;rintro e w2 ⟨rfl,hd2,hk2⟩)
 go_ret
 refine ⟨some ⟨g,0,none⟩,c1,by simp[sortL_length],?_,hk1.then hk2 (fun i hi e=>by have:i=g:=e;omega)⟩;rw[sortL_length];exact HB.out _ _ (sortL_length X) hd2
theorem byteOf_nat {n:Int} (h0:0≤n) (h1:n≤255):(byteOf n).toNat=n.toNat:=by have:=byteOf_val h0 h1;omega
def binBy (s:ByteArray):List UInt8:=byteOf ((s.size:Int) / 256) :: byteOf ((s.size:Int) % 256) :: s.data.toList
theorem addBin_by (l:List UInt8) (s:ByteArray):addBin l s=l++binBy s:=rfl
theorem one_id (id:Nat) (b:List UInt8) (h:id < 256):num (taken 1 (byteOf id :: b) 0)=id∧leftL 1 (byteOf id :: b) 0=b∧leftE 1 (byteOf id :: b) 0=0:=by
 obtain ⟨h1,h2,h3⟩:=one_cons (byteOf id) b;exact ⟨by rw[h1,num_one,byteOf_nat (by omega) (by omega)];omega,h2,h3⟩
theorem nextS_id (id:Nat) (b:List UInt8) (h:id < 256):nextS (byteOf id :: b) 0=typS (typL id) id b 0:=by
 obtain ⟨h1,h2,h3⟩:=one_id id b h;unfold nextS;rw[h1,h2,h3]
theorem taken_inv {n:Nat} {l:List UInt8} (h:leftE n l 0=0):l=taken n l 0++leftL n l 0∧(taken n l 0).length=n:=by
 unfold leftE at h;rw[if_pos rfl]at h
 by_cases hc:0≤(n:Int)∧(n:Int)≤l.length
 ·unfold taken leftL
  rw[if_pos ⟨rfl,hc⟩,if_pos rfl,if_pos hc,Int.toNat_natCast];exact ⟨(List.take_append_drop n l).symm,by rw[List.length_take];omega⟩
 ·rw[if_neg hc]at h
  cases h
theorem leftE_of {n:Int} {l:List UInt8} {e:Int} (h:leftE n l e=0):e=0:=by
 unfold leftE at h
 split at h
 ·assumption
 ·exact h
theorem byteOf_toNat (c:UInt8):byteOf (c.toNat:Int)=c:=by
 apply UInt8.toNat_inj.1
 have:=c.toNat_lt
 rw[byteOf_nat (by omega) (by omega)];omega
theorem byteOf_is {x:Int} {c:UInt8} (h:x=(c.toNat:Int)):byteOf x=c:=by subst h;exact byteOf_toNat c
theorem one_inv {t:List UInt8} (h:t.length=1):[byteOf ((num t:Int) % 256)]=t:=by
 match t,h with
 | [c],_ =>
  have:=c.toNat_lt
  rw[num_one,byteOf_is (c:=c) (by omega)]
theorem two_inv {t:List UInt8} (h:t.length=2):[byteOf ((num t:Int) % 65536 / 256),byteOf ((num t:Int) % 65536 % 256)]=t∧[byteOf ((num t:Int) / 256),byteOf ((num t:Int) % 256)]=t:=by
 match t,h with
 | [c,d],_ =>
  have h1:=c.toNat_lt;have h2:=d.toNat_lt;have e:num [c,d]=(0 * 256+c.toNat) * 256+d.toNat:=rfl;rw[e,byteOf_is (c:=c) (by omega),byteOf_is (c:=d) (by omega),byteOf_is (c:=c) (by omega),byteOf_is (c:=d) (by omega)];exact ⟨rfl,rfl⟩
theorem four_inv {t:List UInt8} (h:t.length=4):[byteOf ((num t:Int) / 16777216),byteOf ((num t:Int) / 65536 % 256),byteOf ((num t:Int) / 256 % 256),byteOf ((num t:Int) % 256)]=t:=by
 match t,h with
 | [a,b,c,d],_ =>
  have h1:=a.toNat_lt;have h2:=b.toNat_lt;have h3:=c.toNat_lt;have h4:=d.toNat_lt;have e:num [a,b,c,d]=(((0 * 256+a.toNat) * 256+b.toNat) * 256+c.toNat) * 256+d.toNat:=rfl;rw[e,byteOf_is (c:=a) (by omega),byteOf_is (c:=b) (by omega),byteOf_is (c:=c) (by omega),byteOf_is (c:=d) (by omega)]
theorem rv_inv {l:List UInt8} (h:(rv 4 0 0 l 0).2.2=0):l=varL (rv 4 0 0 l 0).1++(rv 4 0 0 l 0).2.1∧(rv 4 0 0 l 0).1≤268435455:=by
 have hlt:=rv_lt 4 0 0 l 0 (by decide);have e4:(128:Nat) ^ (0+4)=268435456:=by decide
 rw[e4]at hlt;generalize hR:rv 4 0 0 l 0=R at *;obtain ⟨x,l',e⟩:=R;dsimp only at h hlt ⊢;subst h;obtain ⟨y,h1,h2,_⟩:=rv_var7 4 0 0 l x l' hR;have hy:y=x:=by simpa using h1.symm
 subst hy;refine ⟨?_,by omega⟩;unfold varL;rw[if_pos (by omega)];exact h2
theorem bin_inv {l:List UInt8} (h:binE l 0=0):l=binBy ⟨(binTaken l 0).toArray⟩++binL l 0:=by
 unfold binE at h;have h0:=leftE_of h;have h1:=taken_inv (n:=2) h0;rw[show ((2:Nat):Int)=2 from rfl]at h1;rw[h0]at h;have h2:=taken_inv h
 have hs:(⟨(binTaken l 0).toArray⟩:ByteArray).size=num (taken 2 l 0):=by
  rw[ba_size];unfold binTaken;rw[h0];exact h2.2
 unfold binBy;rw[hs];have h3:=(two_inv h1.2).2
 have e:byteOf ((num (taken 2 l 0):Int) / 256) :: byteOf ((num (taken 2 l 0):Int) % 256) :: ((⟨(binTaken l 0).toArray⟩:ByteArray).data.toList)=taken 2 l 0++binTaken l 0:=by
  conv=>rhs;rw[← h3]
  simp
 rw[e];unfold binTaken binL;rw[h0,List.append_assoc,← h2.1];exact h1.1
theorem next_inv {l:List UInt8} (h:nextK l=true):l=(nextS l 0).1.lay++(nextS l 0).2.1∧(nextS l 0).1.ok=true:=by
 unfold nextK at h;rw[Bool.and_eq_true]at h;have he:=of_decide_eq_true h.1;have hk:=h.2;refine ⟨?_,hk⟩;have hne:l≠[]:=nextK_ne (by unfold nextK;rw[Bool.and_eq_true];exact h)
 obtain ⟨c,t,rfl⟩:∃ c t,l=c :: t:=by cases l with
  | nil=>exact absurd rfl hne
  | cons c t=>exact ⟨c,t,rfl⟩
 have hc:c=byteOf (c.toNat:Int):=(byteOf_toNat c).symm;have h8:=c.toNat_lt
 have hn:nextS (c :: t) 0=typS (typL c.toNat) c.toNat t 0:=by
  conv=>lhs;rw[hc]
  exact nextS_id c.toNat t h8
 rw[hn]at he hk ⊢;have hid:=typS_id (typL c.toNat) c.toNat t 0
 have ht:typL c.toNat≠0:=fun h0=>by
  have:rightB (typS (typL c.toNat) c.toNat t 0).1.id (typS (typL c.toNat) c.toNat t 0).1.n (typS (typL c.toNat) c.toNat t 0).1.a (typS (typL c.toNat) c.toNat t 0).1.b=true:=hk
  rw[hid]at this;unfold rightB at this;rw[h0]at this;simp[rightT]at this
 have ht7:=typL_le c.toNat;clear hn hid hk h
 suffices hs:t=((typS (typL c.toNat) c.toNat t 0).1.lay).drop 1++(typS (typL c.toNat) c.toNat t 0).2.1∧(typS (typL c.toNat) c.toNat t 0).1.lay=c :: ((typS (typL c.toNat) c.toNat t 0).1.lay).drop 1 by
  rw[hs.2,List.cons_append,← hs.1]
 have hlay:(typS (typL c.toNat) c.toNat t 0).1.lay=layP c.toNat (typS (typL c.toNat) c.toNat t 0).1.n (typS (typL c.toNat) c.toNat t 0).1.a (typS (typL c.toNat) c.toNat t 0).1.b:=by
  unfold Pr.lay;rw[typS_id]
 rw[hlay];clear hlay;unfold layP;generalize hT:typL c.toNat=T at *;rcases (show T=1∨T=2∨T=3∨T=4∨T=5∨T=6∨T=7 from by omega) with rfl|rfl|rfl|rfl|rfl|rfl|rfl
 ·have he':leftE 1 t 0=0:=he
  have h1:=taken_inv (n:=1) he';rw[show ((1:Nat):Int)=1 from rfl]at h1;rw[if_pos rfl];refine ⟨?_,by rw[hc];simp[addByte,byteOf_toNat]⟩;show t=[byteOf ((num (taken 1 t 0):Int) % 256)]++leftL 1 t 0;rw[one_inv h1.2];exact h1.1
 ·have he':leftE 2 t 0=0:=he
  have h1:=taken_inv (n:=2) he';rw[show ((2:Nat):Int)=2 from rfl]at h1;rw[if_neg (by decide),if_pos rfl];refine ⟨?_,by rw[hc];simp[addTwo,byteOf_toNat]⟩;show t=[byteOf ((num (taken 2 t 0):Int) % 65536 / 256),byteOf ((num (taken 2 t 0):Int) % 65536 % 256)]++leftL 2 t 0;rw[(two_inv h1.2).1];exact h1.1
 ·have he':leftE 4 t 0=0:=he
  have h1:=taken_inv (n:=4) he';rw[show ((4:Nat):Int)=4 from rfl]at h1;rw[if_neg (by decide),if_neg (by decide),if_pos rfl];refine ⟨?_,by rw[hc];simp[addFour,byteOf_toNat]⟩;show t=[byteOf ((num (taken 4 t 0):Int) / 16777216),byteOf ((num (taken 4 t 0):Int) / 65536 % 256),byteOf ((num (taken 4 t 0):Int) / 256 % 256),byteOf ((num (taken 4 t 0):Int) % 256)]++leftL 4 t 0;rw[four_inv h1.2];exact h1.1
 ·have he':(rv 4 0 0 t 0).2.2=0:=he
  have h1:=rv_inv he';rw[if_neg (by decide),if_neg (by decide),if_neg (by decide),if_pos rfl];refine ⟨?_,by rw[hc];simp[addVar,byteOf_toNat]⟩;show t=varL (rv 4 0 0 t 0).1++(rv 4 0 0 t 0).2.1;exact h1.1
 ·have he':binE t 0=0:=he
  have h1:=bin_inv he';rw[if_neg (by decide),if_neg (by decide),if_neg (by decide),if_neg (by decide),if_neg (by decide)];exact ⟨h1,by rw[hc];simp[addBin,byteOf_toNat]⟩
 ·have he':binE t 0=0:=he
  have h1:=bin_inv he';rw[if_neg (by decide),if_neg (by decide),if_neg (by decide),if_neg (by decide),if_neg (by decide)];exact ⟨h1,by rw[hc];simp[addBin,byteOf_toNat]⟩
 ·have he':binE (binL t 0) (binE t 0)=0:=he
  have h0:binE t 0=0:=leftE_of (leftE_of he');have h1:=bin_inv h0;rw[h0]at he';have h2:=bin_inv he';rw[if_neg (by decide),if_neg (by decide),if_neg (by decide),if_neg (by decide),if_pos rfl];refine ⟨?_,by rw[hc];simp[addBin,byteOf_toNat]⟩
  have e0:∀ x y:ByteArray,(addBin (addBin [byteOf (c.toNat:Int)] x) y).drop 1=binBy x++binBy y:=fun x y=>by
   rw[addBin_by,addBin_by];simp
  rw[e0];show t=(binBy ⟨(binTaken t 0).toArray⟩++binBy ⟨(binTaken (binL t 0) (binE t 0)).toArray⟩)++binL (binL t 0) (binE t 0);rw[h0,List.append_assoc,← h2];exact h1
theorem each_inv:∀ (k:Nat) (l:List UInt8),l.length≤k→(eachL l).2=true→l=layAll (eachL l).1∧(∀ p∈(eachL l).1,p.ok=true∧p.sm)
 | 0,l,hk,_=>by
  obtain rfl:l=[]:=List.length_eq_zero_iff.1 (by omega);exact ⟨rfl,by simp[eachL_nil]⟩
 | k+1,l,hk,h=>by
  by_cases h0:l=[]
  ·subst h0
   exact ⟨rfl,by simp[eachL_nil]⟩
  ·by_cases hn:nextK l=true
   ·have hlt:=next_lt hn
    rw[eachL_cons hn]at h ⊢;obtain ⟨h1,h2⟩:=each_inv k (nextS l 0).2.1 (by omega) h;have h3:=next_inv hn;refine ⟨?_,?_⟩
    ·show l=(nextS l 0).1.lay++layAll _
     rw[← h1];exact h3.1
    ·intro p hp
     rcases List.mem_cons.1 hp with rfl|hp
     ·exact ⟨h3.2,nextS_sm l 0⟩
     ·exact h2 p hp
   ·rw[eachL_bad h0 (by simpa using hn)]at h
    cases h
theorem Pr.sm.wf' {p:Pr} (h:p.sm):p.wf':=⟨h.hid,h.hn,by have:=h.ha;omega,by have:=h.hb;omega⟩
theorem layAll_perm {L M:List Pr} (h:L.Perm M):(layAll L).length=(layAll M).length:=by
 unfold layAll;exact (h.flatMap_right _).length_eq
theorem layAll_sort (L:List Pr):(layAll (sortL L)).length=(layAll L).length:=layAll_perm (sortL_perm L)
theorem take_inv {l:List UInt8} (h:takeErr l 0=0):l=varL (takeSec l 0).length++(takeSec l 0++takeLeft l 0)∧(takeSec l 0).length≤268435455:=by
 unfold takeErr at h;have h0:=leftE_of h;have h1:=rv_inv h0;rw[h0]at h;have h2:=taken_inv h;have hs:(takeSec l 0).length=(rv 4 0 0 l 0).1:=by unfold takeSec;rw[h0];exact h2.2
 rw[hs];refine ⟨?_,h1.2⟩;unfold takeSec takeLeft;rw[h0,← h2.1];exact h1.1
def Fewp (L:List Pr):Prop:=L.length≤30∧∀ p∈L,p.a.size≤200∧p.b.size≤200
theorem Fewp.wf {L:List Pr} (h:Fewp L) (hw:∀ p∈L,p.id < 256∧p.n < 4294967296):∀ p∈L,p.wf':=fun p hp=>⟨(hw p hp).1,(hw p hp).2,by have:=h.2 p hp;omega,by have:=h.2 p hp;omega⟩
end Go.Proofs.YtofjhopecfmbcaaGreatDoor
