import Derived.Test.YtnehnjklgglliaaGreatDoorYFM
import Derived.Test.YtnehnjklgglliaaGreatDoorYFE
import Derived.Test.YtnehnjklgglliaaGreatDoorYFC
namespace Go.Proofs.YtnehnjklgglliaaGreatDoor
open Go.RowKit
set_option linter.unusedVariables false
set_option linter.unusedSimpArgs false
set_option maxRecDepth 100000
theorem lN {v:Int} {p:Pk} (h:¬ (p.kind=11∧v=4)):(decide (p.kind=11)&&decide (v=4))=false:=by
 rw[Bool.and_eq_false_iff];simp only[decide_eq_false_iff_not];omega
theorem lD1 {v:Int} {p:Pk} (k:p.kind=8∨p.kind=10) (l:p.filters.length<1∨1024<p.filters.length):qe v p=false:=by
 unfold qe;rw[if_pos k];rcases l with l|l
 ·rw[decide_eq_false (by omega:¬ 1≤p.filters.length)];rfl
 ·rw[decide_eq_false (by omega:¬ p.filters.length≤1024)];simp
theorem lD2 {v:Int} {p:Pk} {j:Nat} (k:p.kind=8∨p.kind=10) (hj:j<p.filters.length) (h:j6n v p.kind p.filters[j]=false):qe v p=false:=by
 unfold qe;rw[if_pos k,j2b hj h];simp
theorem lD3 {v:Int} {p:Pk} (k:p.kind=9∨(p.kind=11∧v=5)) (l:p.codes.length<1∨1024<p.codes.length):qe v p=false:=by
 unfold qe;rw[if_pos k];rcases l with l|l
 ·rw[decide_eq_false (by omega:¬ 1≤p.codes.length)];simp
 ·rw[decide_eq_false (by omega:¬ p.codes.length≤1024)];simp
theorem lD4 {v:Int} {p:Pk} {j:Nat} (k:p.kind=9∨(p.kind=11∧v=5)) (hj:j<p.codes.length) (h:ke v p.kind p.codes[j].toNat=false):qe v p=false:=by
 unfold qe;rw[if_pos k,j2b (P:=λc=>ke v p.kind c.toNat) hj h];simp
theorem lD5 {v:Int} {p:Pk} (k:p.kind=8∨p.kind=10) (l:¬ (p.filters.length<1∨1024<p.filters.length)) (h:(p.filters.all λf=>j6n v p.kind f)=true):qe v p=true:=by
 unfold qe;rw[if_pos k,if_neg (by omega),h,decide_eq_true (by omega:1≤p.filters.length),decide_eq_true (by omega:p.filters.length≤1024),decide_eq_false (by omega:¬ p.kind=11)];rfl
theorem lD6 {v:Int} {p:Pk} (k:p.kind=9∨(p.kind=11∧v=5)) (l:¬ (p.codes.length<1∨1024<p.codes.length)) (h:(p.codes.all λc=>ke v p.kind c.toNat)=true):qe v p=true:=by
 unfold qe;rw[if_pos k,if_neg (by omega),h,decide_eq_true (by omega:1≤p.codes.length),decide_eq_true (by omega:p.codes.length≤1024)];rcases k with k|k
 ·rw[decide_eq_false (by omega:¬ p.kind=11)];rfl
 ·rw[decide_eq_false (by omega:¬ v=4)];simp
theorem lD7 {v:Int} {p:Pk} (k:¬ (p.kind=8∨p.kind=10)) (l:¬ (p.kind=9∨(p.kind=11∧v=5))):qe v p = !(decide (p.kind=11)&&(decide (v=4)&&decide (0<p.codes.length))):=by
 unfold qe;rw[if_neg k,if_neg l];rfl
theorem jBt (v:Int) (p:Pk) (s:Sl) (w:World) (hp:p.At s w) (hF:Fit p) :
  Calls Tryz.prog 39 #[.int .i64 v,p.val s] w λe w'=>e=.returned (.bool (qe v p))∧Kept No w w':=by
 have hm:=hF.few.hf;have hm2:=hF.few.hc;let RR:Ending→World→Prop:=λe w'=>e=.returned (.bool (qe v p))∧Kept No w w'
 go_enter Tryz.func39,Tryz.ntmps39
 generalize hA:({tmps:=_,defers:=[]}:Act)=A;have F:Fr A 145 [(1,(Pk.val p s)),(0,(.int .i64 v))]:=by rw[← hA];exact (Fr.cons (i:=1) (v:=(Pk.val p s)) (Fr.cons (i:=0) (v:=(.int .i64 v)) (Fr.nil0 rfl rfl) rfl) rfl)
 clear hA;have H:=Hp.start w;refine sg λK1 hK1=>?_;refine ja (c:=(Pk.cells p s)) (t:=34) F H rfl (qO rfl (F.e rfl) (qP _ _)) ?_;clear F A;intro b2 W A hk hN H9 F;clear H;have H:=H9;clear H9;clear hk hN;refine zd ?_;intro A F;refine nn (hK1 _ _) ?_;refine wp_seq_k λK3 hK3=>?_;refine sg λK4 hK4=>?_
 iterate 2 (refine zd ?_;intro A F)
 refine zb (jG) ?_;intro A F;refine zd ?_;intro A F
 iterate 2 (refine zg ?_;intro A F)
 refine q6 F rfl (jv F rfl rfl rfl) (λhG=>(jF rfl (F.o rfl hG) jA (jG))) ?_;intro A F;refine j3 F rfl (jN rfl (F.e rfl) (λhx=>(F.o rfl (gnt hx))) rfl) ?_;intro A F;refine nn (hK4 _ _) ?_;refine zc (λhb5=>?_) (λhb5=>?_)
 ·skip
  refine wp_seq_k λK6 hK6=>?_;refine sg λK7 hK7=>?_
  iterate 2 (refine zd ?_;intro A F)
  refine j3 F rfl (ju rfl (j4 (F.e rfl) j8) (jk Tryz.underlying32)) ?_;intro A F;refine zb (vA (i:=p.filters.length) (j:=1)) ?_;intro A F;refine zd ?_;intro A F
  iterate 2 (refine zg ?_;intro A F)
  refine q6 F rfl (jv F rfl rfl rfl) (λhG=>(ju rfl (j4 (F.o rfl hG) j8) (jk Tryz.underlying32))) ?_;intro A F;refine q6 F rfl (jv F rfl rfl rfl) (λhG=>(jF rfl (F.o rfl hG) jA (qa (i:=p.filters.length) (j:=1024)))) ?_;intro A F;refine j3 F rfl (jN rfl (F.e rfl) (λhx=>(F.o rfl (gnt hx))) rfl) ?_;intro A F;refine nn (hK7 _ _) ?_;refine zc (λhb8=>?_) (λhb8=>?_)
  ·skip
   replace F:=(((F.nil.cons (F.g 4 _ rfl)).cons (F.g 3 _ rfl)).cons (F.g 0 _ rfl))
   refine sg λK9 hK9=>?_;refine zd ?_;intro A F;refine nn (hK9 _ _) ?_;refine j9 ?_;refine (show bodyPost _ Tryz.f39 RR Exit.ret _ _ from zr ?_);exact ⟨congrArg (λb=>Ending.returned (.bool b)) (by (try simp only[← nE9,oE9,aE9,dE9]at hb5 hb8);first|(exfalso;omega)|(rw[lD1 (by omega) (by omega)])|(rw[lD3 (by omega) (by omega)])|(rw[lD5 (by omega) (by omega) hal1,lN (by omega)];rfl)|(rw[lD6 (by omega) (by omega) hal2,lN (by omega)];rfl)|(rw[lD7 (by omega) (by omega)];simp only[Bool.and_assoc])),H.k⟩
  replace F:=(((F.nil.cons (F.g 4 _ rfl)).cons (F.g 3 _ rfl)).cons (F.g 0 _ rfl))
  refine wp_skip (hK6 _ _ ?_);refine sg λK10 hK10=>?_;refine zd ?_;intro A F;refine nn (hK10 _ _) ?_;refine wp_block ?_;refine xq (λ(j:Nat) A W=>Fr A 145 [(0,(.int .i64 v)),(3,(.pointer (some ⟨b2,0,none⟩))),(5,(.int .i64 ((j:Int))))]∧Hp w W [⟨b2,34,(Pk.cells p s)⟩]∧(j≤p.filters.length∧(p.filters.take j).all (λf=>j6n v p.kind f)=true)) (λj=>p.filters.length - j) 0 ⟨(((F.nil.cons (qI (F.g 5 _ rfl) (by rfl))).cons (F.g 3 _ rfl)).cons (F.g 0 _ rfl)),H,⟨by omega,by simp⟩⟩ (λj A W hI J11 hJ11=>?_);clear F H;obtain ⟨F,H,hj,hall⟩:=hI
  by_cases hlt:j<p.filters.length
  ·skip
   have ht12:decide (j<p.filters.length)=true:=decide_eq_true hlt;obtain ⟨b9,off9,ha9,hbb9,q0,q1⟩:=(hp.kept H.k).hf.filt hlt;obtain ⟨f9,hF9⟩:∃ f9,f9=p.filters[j]:=⟨_,rfl⟩
   rw[← hF9]at q0 q1;have hFo:f9.opt<256:=hF9▸hF.opt _ (List.getElem_mem hlt);have hFt:f9.text.size≤140737488351232:=hF9▸hF.r.tf _ (List.getElem_mem hlt);refine wp_seq_k λK13 hK13=>?_;refine sg λK14 hK14=>?_
   iterate 3 (refine zd ?_;intro A F)
   refine j3 F rfl (ju rfl (j4 (F.e rfl) j8) (jk Tryz.underlying32)) ?_;intro A F;refine zb (vA (i:=j) (j:=p.filters.length)) ?_;intro A F;replace F:=F.hd (congrArg Value.bool ht12);refine nn (hK14 _ _) ?_;refine wp_cond_true (F.e rfl) ?_;refine wp_skip (hK13 _ _ ?_);refine wp_seq_k λK15 hK15=>?_;refine wp_block ?_;refine sg λK16 hK16=>?_
   iterate 3 (refine zd ?_;intro A F)
   refine j3 F rfl (vJ rfl ((F.e rfl).trans (show _=Value.slice (some ⟨b9,off9,none⟩) p.filters.length s.fc from by rw[← ha9];rfl)) (F.e rfl) (zo Tryz.underlying32 (j2l _) hlt)) ?_;intro A F;refine j3 F rfl (jB rfl (F.e rfl) (j2k (jD7 _) (j2l _) q0 q1)) ?_;intro A F;refine ja (c:=#[(.string ⟨#[]⟩),(.int .u8 0)]) (t:=76) F H rfl (jY rfl (jKo _)) ?_;clear F A;intro b17 W A hk hN H9 F;clear H;have H:=H9;clear H9;clear hk hN;obtain ⟨W9,hr,hB,hk⟩:=j7 (P:=Tryz.prog) (S:=76) (c:=#[(.string f9.text),(.int .u8 ((f9.opt:Int)))]) _ (H.b.at_ (j:=0) rfl).1 (j2l _) rfl (by simp[Value.oneCell']);refine jW (jD rfl (F.e rfl) (F.e rfl) hr) ?_;clear hr;replace H:Hp _ _ [_,_]:=Hp.turn [] H hk hB;clear hk hB;refine nn (hK16 _ _) ?_;refine sg λK18 hK18=>?_
   iterate 2 (refine zd ?_;intro A F)
   refine vE (R:=λvv ww=>∃ s1 s2,vv=.tuple #[.string s1,.string s2,.bool (xM f9.text)]) F H rfl (j5 rfl rfl (j4 (F.e rfl) j8) jOr) ((jAg f9.text _ (by omega)).mono λe9 ww h9=>by obtain ⟨s1,s2,hs⟩:=j69 f9.text;exact ⟨_,h9.1,⟨s1,s2,hs⟩,h9.2⟩) ?_;clear F H A;intro vv W A hR hk H F;obtain ⟨s1,s2,rfl⟩:=hR;clear hk
   iterate 7 (refine zd ?_;intro A F)
   refine nn (hK18 _ _) ?_;refine sg λK20 hK20=>?_
   iterate 2 (refine zd ?_;intro A F)
   refine jU F H rfl (j5 rfl rfl (j4 (F.e rfl) j8) jOs) (j3v f9.text _ (by omega)) ?_;clear F H A;intro W A hk H F;clear hk
   iterate 2 (refine zd ?_;intro A F)
   iterate 2 (refine zg ?_;intro A F)
   refine q6 F rfl (jv F rfl rfl rfl) (λhG=>(jF rfl (F.o rfl hG) jA (vc (i:=f9.opt) (j:=4) (by decide)))) ?_;intro A F;refine q6 F rfl (jv F rfl rfl rfl) (λhG=>(jF rfl (F.o rfl hG) jA (jt (i:=(f9.opt % 4)) (j:=3)))) ?_;intro A F;refine j3 F rfl (jN rfl (F.e rfl) (λhx=>(F.o rfl (gnt hx))) rfl) ?_;intro A F;refine zd ?_;intro A F
   iterate 2 (refine zg ?_;intro A F)
   refine q6 F rfl (jv F rfl rfl rfl) (λhG=>(jF rfl (F.o rfl hG) jA (jG))) ?_;intro A F
   iterate 3 (refine zg ?_;intro A F)
   refine q6 F rfl (zy F rfl rfl rfl) (λhG=>(jF rfl (F.o rfl hG) jA (qN (i:=f9.opt) (j:=0)))) ?_;intro A F;refine zg ?_;intro A F;refine j3 F rfl (jN rfl (F.e rfl) (λhx=>(F.o rfl (gnt hx))) rfl) ?_;intro A F;refine zd ?_;intro A F;refine zg ?_;intro A F;refine q6 F rfl (jv F rfl rfl rfl) (λhG=>(jF rfl (F.o rfl hG) jA (jG))) ?_;intro A F
   iterate 3 (refine zg ?_;intro A F)
   refine q6 F rfl (zy F rfl rfl rfl) (λhG=>(jF rfl (F.o rfl hG) jA (qa (i:=f9.opt) (j:=2)))) ?_;intro A F;refine zg ?_;intro A F;refine j3 F rfl (jN rfl (F.e rfl) (λhx=>(F.o rfl (gnt hx))) rfl) ?_;intro A F;refine zd ?_;intro A F
   iterate 2 (refine zg ?_;intro A F)
   refine q6 F rfl (jv F rfl rfl rfl) (λhG=>(jF rfl (F.o rfl hG) jA (jK6 (i:=f9.opt) (j:=48)))) ?_;intro A F;refine j3 F rfl (jN rfl (F.e rfl) (λhx=>(F.o rfl (gnt hx))) rfl) ?_;intro A F;refine zd ?_;intro A F
   iterate 4 (refine zg ?_;intro A F)
   refine q6 F rfl (zy F rfl rfl rfl) (λhG=>(jF rfl (F.o rfl hG) jA (vu (i:=f9.opt) (j:=4) (by decide) (vf (by omega) (by omega))))) ?_;intro A F;refine q6 F rfl (zy F rfl rfl rfl) (λhG=>(jF rfl (F.o rfl hG) jA (vc (i:=(f9.opt / 4)) (j:=2) (by decide)))) ?_;intro A F;refine q6 F rfl (zy F rfl rfl rfl) (λhG=>(jF rfl (F.o rfl hG) jA (jt (i:=(((f9.opt / 4)) % 2)) (j:=1)))) ?_;intro A F;refine zg ?_;intro A F;refine j3 F rfl (jN rfl (F.e rfl) (λhx=>(F.o rfl (gnt hx))) rfl) ?_;intro A F;refine nn (hK20 _ _) ?_;refine zc (λhb22=>?_) (λhb22=>?_)
   ·skip
    refine sg λK23 hK23=>?_;refine zd ?_;intro A F;refine nn (hK23 _ _) ?_;refine j9 ?_;refine (show bodyPost _ Tryz.f39 RR Exit.ret _ _ from zr ?_);exact ⟨congrArg (λb=>Ending.returned (.bool b)) (lD2 (by (try simp only[← nE9,oE9,aE9,dE9]at hb5 hb8 ht12 hb22);omega) hlt (by rw[← hF9];have h7:=hb22;(try simp only[Bool.or_assoc,Bool.and_assoc]at h7);unfold j6n;(try simp only[Bool.or_assoc,Bool.and_assoc]);rw[h7];rfl)).symm,H.k⟩
   refine wp_skip (hK15 _ _ ?_);refine jC ?_;refine zd ?_;intro A F;refine j3 F rfl (jF rfl (F.e rfl) jA (jw (jH (by omega) (by omega)))) ?_;intro A F;refine zd ?_;intro A F;refine wpList_nil ?_;exact hJ11 ((j+1)) _ _ (by omega) ⟨(((F.nil.cons (qI (F.g 5 _ rfl) (by simp))).cons (F.g 3 _ rfl)).cons (F.g 0 _ rfl)),H.tl,⟨by omega,j0n hlt hall (by rw[← hF9];have h7:=hb22;(try simp only[Bool.or_assoc,Bool.and_assoc]at h7);unfold j6n;(try simp only[Bool.or_assoc,Bool.and_assoc]);rw[h7];rfl)⟩⟩
  have ht24:decide (j<p.filters.length)=false:=decide_eq_false hlt;have hal1:=j2a hlt hall;clear hall hlt hj;refine wp_seq_k λK25 hK25=>?_;refine sg λK26 hK26=>?_
  iterate 3 (refine zd ?_;intro A F)
  refine j3 F rfl (ju rfl (j4 (F.e rfl) j8) (jk Tryz.underlying32)) ?_;intro A F;refine zb (vA (i:=j) (j:=p.filters.length)) ?_;intro A F;replace F:=F.hd (congrArg Value.bool ht24);refine nn (hK26 _ _) ?_;refine wp_cond_false (F.e rfl) ?_;refine wp_exit ?_;refine hK3 _ _ ?_;refine wp_seq_k λK27 hK27=>?_;refine sg λK28 hK28=>?_
  iterate 2 (refine zd ?_;intro A F)
  refine zb (jG) ?_;intro A F;refine zd ?_;intro A F
  iterate 2 (refine zg ?_;intro A F)
  refine q6 F rfl (jv F rfl rfl rfl) (λhG=>(jF rfl (F.o rfl hG) jA (jG))) ?_;intro A F
  iterate 2 (refine zg ?_;intro A F)
  refine q6 F rfl (zy F rfl rfl rfl) (λhG=>(jF rfl (F.o rfl hG) jA (jG))) ?_;intro A F;refine zg ?_;intro A F;refine j3 F rfl (jN rfl (F.e rfl) (λhx=>(F.o rfl (gnt hx))) rfl) ?_;intro A F;refine nn (hK28 _ _) ?_;refine zc (λhb29=>?_) (λhb29=>?_)
  ·skip
   replace F:=((F.nil.cons (F.g 3 _ rfl)).cons (F.g 0 _ rfl))
   refine wp_seq_k λK30 hK30=>?_;refine sg λK31 hK31=>?_
   iterate 2 (refine zd ?_;intro A F)
   refine j3 F rfl (ju rfl (j4 (F.e rfl) j8) (jk Tryz.underlying22)) ?_;intro A F;refine zb (vA (i:=p.codes.length) (j:=1)) ?_;intro A F;refine zd ?_;intro A F
   iterate 2 (refine zg ?_;intro A F)
   refine q6 F rfl (jv F rfl rfl rfl) (λhG=>(ju rfl (j4 (F.o rfl hG) j8) (jk Tryz.underlying22))) ?_;intro A F;refine q6 F rfl (jv F rfl rfl rfl) (λhG=>(jF rfl (F.o rfl hG) jA (qa (i:=p.codes.length) (j:=1024)))) ?_;intro A F;refine j3 F rfl (jN rfl (F.e rfl) (λhx=>(F.o rfl (gnt hx))) rfl) ?_;intro A F;refine nn (hK31 _ _) ?_;refine zc (λhb32=>?_) (λhb32=>?_)
   ·skip
    refine sg λK33 hK33=>?_;refine zd ?_;intro A F;refine nn (hK33 _ _) ?_;refine j9 ?_;refine (show bodyPost _ Tryz.f39 RR Exit.ret _ _ from zr ?_);exact ⟨congrArg (λb=>Ending.returned (.bool b)) (by (try simp only[← nE9,oE9,aE9,dE9]at hb5 hb8 ht24 hb29 hb32);first|(exfalso;omega)|(rw[lD1 (by omega) (by omega)])|(rw[lD3 (by omega) (by omega)])|(rw[lD5 (by omega) (by omega) hal1,lN (by omega)];rfl)|(rw[lD6 (by omega) (by omega) hal2,lN (by omega)];rfl)|(rw[lD7 (by omega) (by omega)];simp only[Bool.and_assoc])),H.k⟩
   refine wp_skip (hK30 _ _ ?_);refine sg λK34 hK34=>?_;refine zd ?_;intro A F;refine nn (hK34 _ _) ?_;refine wp_block ?_;refine xq (λ(i:Nat) A W=>Fr A 145 [(0,(.int .i64 v)),(3,(.pointer (some ⟨b2,0,none⟩))),(10,(.int .i64 ((i:Int))))]∧Hp w W [⟨b2,34,(Pk.cells p s)⟩]∧(i≤p.codes.length∧(p.codes.take i).all (λc=>ke v p.kind c.toNat)=true)) (λi=>p.codes.length - i) 0 ⟨(((F.nil.cons (qI (F.g 10 _ rfl) (by rfl))).cons (F.g 3 _ rfl)).cons (F.g 0 _ rfl)),H,⟨by omega,by simp⟩⟩ (λi A W hI J35 hJ35=>?_);clear F H;obtain ⟨F,H,hi,hali⟩:=hI
   by_cases hli:i<p.codes.length
   ·skip
    have ht36:decide (i<p.codes.length)=true:=decide_eq_true hli;obtain ⟨b9,off9,ha9,hbb9,q0⟩:=(hp.kept H.k).hc.byte hli;obtain ⟨f9,hF9⟩:∃ f9,f9=p.codes[i]:=⟨_,rfl⟩
    rw[← hF9]at q0;have hc8:f9.toNat<256:=f9.toNat_lt;refine wp_seq_k λK37 hK37=>?_;refine sg λK38 hK38=>?_
    iterate 3 (refine zd ?_;intro A F)
    refine j3 F rfl (ju rfl (j4 (F.e rfl) j8) (jk Tryz.underlying22)) ?_;intro A F;refine zb (vA (i:=i) (j:=p.codes.length)) ?_;intro A F;replace F:=F.hd (congrArg Value.bool ht36);refine nn (hK38 _ _) ?_;refine wp_cond_true (F.e rfl) ?_;refine wp_skip (hK37 _ _ ?_);refine wp_seq_k λK39 hK39=>?_;refine wp_block ?_;refine wp_seq_k λK40 hK40=>?_;refine wp_region_held_drew (S:=λwx=>Hp _ wx _) (by kernel_rfl) H.drew (λH9=>?_);clear H;have H:=H9;clear H9;generalize World.drew _=W at *;refine td 0 ?_;intro A F;refine td 1 ?_;intro A F;refine td 2 ?_;intro A F;refine td 3 ?_;intro A F;refine td 4 ?_;intro A F;refine td 5 ?_;intro A F;refine jR (i:=6) F rfl rfl (by kernel_rfl) (λ_ _ _ h=>h) (H) (λwz H=>(vJ rfl ((F.e rfl).trans (show _=Value.slice (some ⟨b9,off9,none⟩) p.codes.length s.cc from by rw[← ha9];rfl)) (F.e rfl) (zo Tryz.underlying22 (j9p _) hli))) ?_;intro A F;refine jR (i:=7) F rfl rfl (by kernel_rfl) (λ_ _ _ h=>h) (H) (λwz H=>(jB rfl (F.e rfl) (qE (jDx _) (by obtain ⟨b8,off8,ha8,hbb8,q8⟩:=(hp.kept H.k).hc.byte hli;rw[ha9]at ha8;injection ha8 with ha8;injection ha8 with e1 e2;subst e1;subst e2;rw[← hF9]at q8;exact q8)))) ?_;intro A F;refine jf (i:=8) (by kernel_rfl) (qW (i:=8) F rfl rfl (j5 rfl rfl (j4 (F.e rfl) (j4 (F.e rfl) (j4 (F.e rfl) j8))) j2h) (vU v p.kind f9.toNat _ hc8) (λ_ hk=>(H.kept hk)) ?_);clear F A;intro W A hk _ F;replace H:=H.kept hk;clear hk;refine td 9 ?_;intro A F;refine wpAnyH_done (by kernel_rfl) ?_ _;refine hK40 _ _ ?_;refine zc (λhb42=>?_) (λhb42=>?_)
    ·skip
     refine sg λK43 hK43=>?_;refine zd ?_;intro A F;refine nn (hK43 _ _) ?_;refine j9 ?_;refine (show bodyPost _ Tryz.f39 RR Exit.ret _ _ from zr ?_);exact ⟨congrArg (λb=>Ending.returned (.bool b)) (lD4 (by (try simp only[← nE9,oE9,aE9,dE9]at hb5 hb8 ht24 hb29 hb32 ht36 hb42);omega) hli (by rw[← hF9];exact gnf hb42)).symm,H.k⟩
    refine wp_skip (hK39 _ _ ?_);refine jC ?_;refine zd ?_;intro A F;refine j3 F rfl (jF rfl (F.e rfl) jA (jw (jH (by omega) (by omega)))) ?_;intro A F;refine zd ?_;intro A F;refine wpList_nil ?_;exact hJ35 ((i+1)) _ _ (by omega) ⟨(((F.nil.cons (qI (F.g 10 _ rfl) (by simp))).cons (F.g 3 _ rfl)).cons (F.g 0 _ rfl)),H,⟨by omega,j0n hli hali (by rw[← hF9];exact gnz hb42)⟩⟩
   have ht44:decide (i<p.codes.length)=false:=decide_eq_false hli;have hal2:=j2a hli hali;clear hali hli hi;refine wp_seq_k λK45 hK45=>?_;refine sg λK46 hK46=>?_
   iterate 3 (refine zd ?_;intro A F)
   refine j3 F rfl (ju rfl (j4 (F.e rfl) j8) (jk Tryz.underlying22)) ?_;intro A F;refine zb (vA (i:=i) (j:=p.codes.length)) ?_;intro A F;replace F:=F.hd (congrArg Value.bool ht44);refine nn (hK46 _ _) ?_;refine wp_cond_false (F.e rfl) ?_;refine wp_exit ?_;refine hK27 _ _ ?_;refine sg λK47 hK47=>?_
   iterate 2 (refine zd ?_;intro A F)
   refine zb (jG) ?_;intro A F;refine zd ?_;intro A F;refine zg ?_;intro A F;refine q6 F rfl (je F rfl rfl rfl) (λhG=>(jF rfl (F.o rfl hG) jA (jG))) ?_;intro A F;refine j3 F rfl (jJ rfl (F.e rfl) (λhx=>(F.o rfl hx)) rfl) ?_;intro A F;refine zd ?_;intro A F
   iterate 2 (refine zg ?_;intro A F)
   refine q6 F rfl (je F rfl rfl rfl) (λhG=>(ju rfl (j4 (F.o rfl hG) j8) (jk Tryz.underlying22))) ?_;intro A F;refine q6 F rfl (je F rfl rfl rfl) (λhG=>(jF rfl (F.o rfl hG) jA (qa (i:=p.codes.length) (j:=0)))) ?_;intro A F;refine j3 F rfl (jJ rfl (F.e rfl) (λhx=>(F.o rfl hx)) rfl) ?_;intro A F
   iterate 2 (refine zd ?_;intro A F)
   refine nn (hK47 _ _) ?_;refine j9 ?_;refine (show bodyPost _ Tryz.f39 RR Exit.ret _ _ from zr ?_);exact ⟨congrArg (λb=>Ending.returned (.bool b)) (by (try simp only[← nE9,oE9,aE9,dE9]at hb5 hb8 ht24 hb29 hb32 ht44);first|(exfalso;omega)|(rw[lD1 (by omega) (by omega)])|(rw[lD3 (by omega) (by omega)])|(rw[lD5 (by omega) (by omega) hal1,lN (by omega)];rfl)|(rw[lD6 (by omega) (by omega) hal2,lN (by omega)];rfl)|(rw[lD7 (by omega) (by omega)];simp only[Bool.and_assoc])),H.k⟩
  replace F:=((F.nil.cons (F.g 3 _ rfl)).cons (F.g 0 _ rfl))
  refine wp_skip (hK27 _ _ ?_);refine sg λK48 hK48=>?_
  iterate 2 (refine zd ?_;intro A F)
  refine zb (jG) ?_;intro A F;refine zd ?_;intro A F;refine zg ?_;intro A F;refine q6 F rfl (je F rfl rfl rfl) (λhG=>(jF rfl (F.o rfl hG) jA (jG))) ?_;intro A F;refine j3 F rfl (jJ rfl (F.e rfl) (λhx=>(F.o rfl hx)) rfl) ?_;intro A F;refine zd ?_;intro A F
  iterate 2 (refine zg ?_;intro A F)
  refine q6 F rfl (je F rfl rfl rfl) (λhG=>(ju rfl (j4 (F.o rfl hG) j8) (jk Tryz.underlying22))) ?_;intro A F;refine q6 F rfl (je F rfl rfl rfl) (λhG=>(jF rfl (F.o rfl hG) jA (qa (i:=p.codes.length) (j:=0)))) ?_;intro A F;refine j3 F rfl (jJ rfl (F.e rfl) (λhx=>(F.o rfl hx)) rfl) ?_;intro A F
  iterate 2 (refine zd ?_;intro A F)
  refine nn (hK48 _ _) ?_;refine j9 ?_;refine (show bodyPost _ Tryz.f39 RR Exit.ret _ _ from zr ?_);exact ⟨congrArg (λb=>Ending.returned (.bool b)) (by (try simp only[← nE9,oE9,aE9,dE9]at hb5 hb8 ht24 hb29);first|(exfalso;omega)|(rw[lD1 (by omega) (by omega)])|(rw[lD3 (by omega) (by omega)])|(rw[lD5 (by omega) (by omega) hal1,lN (by omega)];rfl)|(rw[lD6 (by omega) (by omega) hal2,lN (by omega)];rfl)|(rw[lD7 (by omega) (by omega)];simp only[Bool.and_assoc])),H.k⟩
 refine wp_skip (hK3 _ _ ?_);refine wp_seq_k λK49 hK49=>?_;refine sg λK50 hK50=>?_
 iterate 2 (refine zd ?_;intro A F)
 refine zb (jG) ?_;intro A F;refine zd ?_;intro A F
 iterate 2 (refine zg ?_;intro A F)
 refine q6 F rfl (jv F rfl rfl rfl) (λhG=>(jF rfl (F.o rfl hG) jA (jG))) ?_;intro A F
 iterate 2 (refine zg ?_;intro A F)
 refine q6 F rfl (zy F rfl rfl rfl) (λhG=>(jF rfl (F.o rfl hG) jA (jG))) ?_;intro A F;refine zg ?_;intro A F;refine j3 F rfl (jN rfl (F.e rfl) (λhx=>(F.o rfl (gnt hx))) rfl) ?_;intro A F;refine nn (hK50 _ _) ?_;refine zc (λhb51=>?_) (λhb51=>?_)
 ·skip
  replace F:=(((F.nil.cons (F.g 4 _ rfl)).cons (F.g 3 _ rfl)).cons (F.g 0 _ rfl))
  refine wp_seq_k λK52 hK52=>?_;refine sg λK53 hK53=>?_
  iterate 2 (refine zd ?_;intro A F)
  refine j3 F rfl (ju rfl (j4 (F.e rfl) j8) (jk Tryz.underlying22)) ?_;intro A F;refine zb (vA (i:=p.codes.length) (j:=1)) ?_;intro A F;refine zd ?_;intro A F
  iterate 2 (refine zg ?_;intro A F)
  refine q6 F rfl (jv F rfl rfl rfl) (λhG=>(ju rfl (j4 (F.o rfl hG) j8) (jk Tryz.underlying22))) ?_;intro A F;refine q6 F rfl (jv F rfl rfl rfl) (λhG=>(jF rfl (F.o rfl hG) jA (qa (i:=p.codes.length) (j:=1024)))) ?_;intro A F;refine j3 F rfl (jN rfl (F.e rfl) (λhx=>(F.o rfl (gnt hx))) rfl) ?_;intro A F;refine nn (hK53 _ _) ?_;refine zc (λhb54=>?_) (λhb54=>?_)
  ·skip
   refine sg λK55 hK55=>?_;refine zd ?_;intro A F;refine nn (hK55 _ _) ?_;refine j9 ?_;refine (show bodyPost _ Tryz.f39 RR Exit.ret _ _ from zr ?_);exact ⟨congrArg (λb=>Ending.returned (.bool b)) (by (try simp only[← nE9,oE9,aE9,dE9]at hb5 hb51 hb54);first|(exfalso;omega)|(rw[lD1 (by omega) (by omega)])|(rw[lD3 (by omega) (by omega)])|(rw[lD5 (by omega) (by omega) hal1,lN (by omega)];rfl)|(rw[lD6 (by omega) (by omega) hal2,lN (by omega)];rfl)|(rw[lD7 (by omega) (by omega)];simp only[Bool.and_assoc])),H.k⟩
  refine wp_skip (hK52 _ _ ?_);refine sg λK56 hK56=>?_;refine zd ?_;intro A F;refine nn (hK56 _ _) ?_;refine wp_block ?_;refine xq (λ(i:Nat) A W=>Fr A 145 [(0,(.int .i64 v)),(3,(.pointer (some ⟨b2,0,none⟩))),(10,(.int .i64 ((i:Int))))]∧Hp w W [⟨b2,34,(Pk.cells p s)⟩]∧(i≤p.codes.length∧(p.codes.take i).all (λc=>ke v p.kind c.toNat)=true)) (λi=>p.codes.length - i) 0 ⟨(((F.nil.cons (qI (F.g 10 _ rfl) (by rfl))).cons (F.g 3 _ rfl)).cons (F.g 0 _ rfl)),H,⟨by omega,by simp⟩⟩ (λi A W hI J57 hJ57=>?_);clear F H;obtain ⟨F,H,hi,hali⟩:=hI
  by_cases hli:i<p.codes.length
  ·skip
   have ht58:decide (i<p.codes.length)=true:=decide_eq_true hli;obtain ⟨b9,off9,ha9,hbb9,q0⟩:=(hp.kept H.k).hc.byte hli;obtain ⟨f9,hF9⟩:∃ f9,f9=p.codes[i]:=⟨_,rfl⟩
   rw[← hF9]at q0;have hc8:f9.toNat<256:=f9.toNat_lt;refine wp_seq_k λK59 hK59=>?_;refine sg λK60 hK60=>?_
   iterate 3 (refine zd ?_;intro A F)
   refine j3 F rfl (ju rfl (j4 (F.e rfl) j8) (jk Tryz.underlying22)) ?_;intro A F;refine zb (vA (i:=i) (j:=p.codes.length)) ?_;intro A F;replace F:=F.hd (congrArg Value.bool ht58);refine nn (hK60 _ _) ?_;refine wp_cond_true (F.e rfl) ?_;refine wp_skip (hK59 _ _ ?_);refine wp_seq_k λK61 hK61=>?_;refine wp_block ?_;refine wp_seq_k λK62 hK62=>?_;refine wp_region_held_drew (S:=λwx=>Hp _ wx _) (by kernel_rfl) H.drew (λH9=>?_);clear H;have H:=H9;clear H9;generalize World.drew _=W at *;refine td 0 ?_;intro A F;refine td 1 ?_;intro A F;refine td 2 ?_;intro A F;refine td 3 ?_;intro A F;refine td 4 ?_;intro A F;refine td 5 ?_;intro A F;refine jR (i:=6) F rfl rfl (by kernel_rfl) (λ_ _ _ h=>h) (H) (λwz H=>(vJ rfl ((F.e rfl).trans (show _=Value.slice (some ⟨b9,off9,none⟩) p.codes.length s.cc from by rw[← ha9];rfl)) (F.e rfl) (zo Tryz.underlying22 (j9p _) hli))) ?_;intro A F;refine jR (i:=7) F rfl rfl (by kernel_rfl) (λ_ _ _ h=>h) (H) (λwz H=>(jB rfl (F.e rfl) (qE (jDx _) (by obtain ⟨b8,off8,ha8,hbb8,q8⟩:=(hp.kept H.k).hc.byte hli;rw[ha9]at ha8;injection ha8 with ha8;injection ha8 with e1 e2;subst e1;subst e2;rw[← hF9]at q8;exact q8)))) ?_;intro A F;refine jf (i:=8) (by kernel_rfl) (qW (i:=8) F rfl rfl (j5 rfl rfl (j4 (F.e rfl) (j4 (F.e rfl) (j4 (F.e rfl) j8))) j2h) (vU v p.kind f9.toNat _ hc8) (λ_ hk=>(H.kept hk)) ?_);clear F A;intro W A hk _ F;replace H:=H.kept hk;clear hk;refine td 9 ?_;intro A F;refine wpAnyH_done (by kernel_rfl) ?_ _;refine hK62 _ _ ?_;refine zc (λhb64=>?_) (λhb64=>?_)
   ·skip
    refine sg λK65 hK65=>?_;refine zd ?_;intro A F;refine nn (hK65 _ _) ?_;refine j9 ?_;refine (show bodyPost _ Tryz.f39 RR Exit.ret _ _ from zr ?_);exact ⟨congrArg (λb=>Ending.returned (.bool b)) (lD4 (by (try simp only[← nE9,oE9,aE9,dE9]at hb5 hb51 hb54 ht58 hb64);omega) hli (by rw[← hF9];exact gnf hb64)).symm,H.k⟩
   refine wp_skip (hK61 _ _ ?_);refine jC ?_;refine zd ?_;intro A F;refine j3 F rfl (jF rfl (F.e rfl) jA (jw (jH (by omega) (by omega)))) ?_;intro A F;refine zd ?_;intro A F;refine wpList_nil ?_;exact hJ57 ((i+1)) _ _ (by omega) ⟨(((F.nil.cons (qI (F.g 10 _ rfl) (by simp))).cons (F.g 3 _ rfl)).cons (F.g 0 _ rfl)),H,⟨by omega,j0n hli hali (by rw[← hF9];exact gnz hb64)⟩⟩
  have ht66:decide (i<p.codes.length)=false:=decide_eq_false hli;have hal2:=j2a hli hali;clear hali hli hi;refine wp_seq_k λK67 hK67=>?_;refine sg λK68 hK68=>?_
  iterate 3 (refine zd ?_;intro A F)
  refine j3 F rfl (ju rfl (j4 (F.e rfl) j8) (jk Tryz.underlying22)) ?_;intro A F;refine zb (vA (i:=i) (j:=p.codes.length)) ?_;intro A F;replace F:=F.hd (congrArg Value.bool ht66);refine nn (hK68 _ _) ?_;refine wp_cond_false (F.e rfl) ?_;refine wp_exit ?_;refine hK49 _ _ ?_;refine sg λK69 hK69=>?_
  iterate 2 (refine zd ?_;intro A F)
  refine zb (jG) ?_;intro A F;refine zd ?_;intro A F;refine zg ?_;intro A F;refine q6 F rfl (je F rfl rfl rfl) (λhG=>(jF rfl (F.o rfl hG) jA (jG))) ?_;intro A F;refine j3 F rfl (jJ rfl (F.e rfl) (λhx=>(F.o rfl hx)) rfl) ?_;intro A F;refine zd ?_;intro A F
  iterate 2 (refine zg ?_;intro A F)
  refine q6 F rfl (je F rfl rfl rfl) (λhG=>(ju rfl (j4 (F.o rfl hG) j8) (jk Tryz.underlying22))) ?_;intro A F;refine q6 F rfl (je F rfl rfl rfl) (λhG=>(jF rfl (F.o rfl hG) jA (qa (i:=p.codes.length) (j:=0)))) ?_;intro A F;refine j3 F rfl (jJ rfl (F.e rfl) (λhx=>(F.o rfl hx)) rfl) ?_;intro A F
  iterate 2 (refine zd ?_;intro A F)
  refine nn (hK69 _ _) ?_;refine j9 ?_;refine (show bodyPost _ Tryz.f39 RR Exit.ret _ _ from zr ?_);exact ⟨congrArg (λb=>Ending.returned (.bool b)) (by (try simp only[← nE9,oE9,aE9,dE9]at hb5 hb51 hb54 ht66);first|(exfalso;omega)|(rw[lD1 (by omega) (by omega)])|(rw[lD3 (by omega) (by omega)])|(rw[lD5 (by omega) (by omega) hal1,lN (by omega)];rfl)|(rw[lD6 (by omega) (by omega) hal2,lN (by omega)];rfl)|(rw[lD7 (by omega) (by omega)];simp only[Bool.and_assoc])),H.k⟩
 replace F:=(((F.nil.cons (F.g 4 _ rfl)).cons (F.g 3 _ rfl)).cons (F.g 0 _ rfl))
 refine wp_skip (hK49 _ _ ?_);refine sg λK70 hK70=>?_
 iterate 2 (refine zd ?_;intro A F)
 refine zb (jG) ?_;intro A F;refine zd ?_;intro A F;refine zg ?_;intro A F;refine q6 F rfl (je F rfl rfl rfl) (λhG=>(jF rfl (F.o rfl hG) jA (jG))) ?_;intro A F;refine j3 F rfl (jJ rfl (F.e rfl) (λhx=>(F.o rfl hx)) rfl) ?_;intro A F;refine zd ?_;intro A F
 iterate 2 (refine zg ?_;intro A F)
 refine q6 F rfl (je F rfl rfl rfl) (λhG=>(ju rfl (j4 (F.o rfl hG) j8) (jk Tryz.underlying22))) ?_;intro A F;refine q6 F rfl (je F rfl rfl rfl) (λhG=>(jF rfl (F.o rfl hG) jA (qa (i:=p.codes.length) (j:=0)))) ?_;intro A F;refine j3 F rfl (jJ rfl (F.e rfl) (λhx=>(F.o rfl hx)) rfl) ?_;intro A F
 iterate 2 (refine zd ?_;intro A F)
 refine nn (hK70 _ _) ?_;refine j9 ?_;refine (show bodyPost _ Tryz.f39 RR Exit.ret _ _ from zr ?_);exact ⟨congrArg (λb=>Ending.returned (.bool b)) (by (try simp only[← nE9,oE9,aE9,dE9]at hb5 hb51);first|(exfalso;omega)|(rw[lD1 (by omega) (by omega)])|(rw[lD3 (by omega) (by omega)])|(rw[lD5 (by omega) (by omega) hal1,lN (by omega)];rfl)|(rw[lD6 (by omega) (by omega) hal2,lN (by omega)];rfl)|(rw[lD7 (by omega) (by omega)];simp only[Bool.and_assoc])),H.k⟩
theorem qw (v:Int) (p:Pk):j3h v p=bif ((((((!decide (v=4))&&(!decide (v=5)))||(decide (p.kind<1)))||(decide (15<p.kind)))||((decide (v=4))&&(decide (p.kind=15))))||(!(decide (p=jj p)))) then false else bif ((((decide (v=4))&&((decide (0<p.props.length))||(decide (0<p.willProps.length))))||(!(qm p.kind p.props)))||(!(qm 16 p.willProps))) then false else bif ((((decide (4≤p.kind))&&(decide (p.kind≤11)))&&(decide (p.id=0)))||(!(qe v p))) then false else xA v p:=by
 have hE:zA v p.kind = !((((!decide (v=4)&&!decide (v=5))||decide (p.kind<1))||decide (15<p.kind))||(decide (v=4)&&decide (p.kind=15))):=by
  unfold zA;rw[Bool.eq_iff_iff];simp only[oE9,aE9,Bool.not_eq_true',Bool.or_eq_false_iff,Bool.and_eq_false_iff,dE9,decide_eq_false_iff_not,Bool.not_eq_false',Bool.not_eq_eq_eq_not,Bool.not_true,Bool.not_false];omega
 unfold j3h;rw[hE];generalize ((((!decide (v=4)&&!decide (v=5))||decide (p.kind<1))||decide (15<p.kind))||(decide (v=4)&&decide (p.kind=15)))=x1;generalize decide (p=jj p)=x2;generalize decide (0<p.props.length)=x3;generalize decide (0<p.willProps.length)=x4;generalize qm p.kind p.props=x5;generalize qm 16 p.willProps=x6;generalize decide (4≤p.kind)=x7;generalize decide (p.kind≤11)=x8;generalize decide (p.id=0)=x9;generalize qe v p=xa;generalize xA v p=xb;generalize decide (v=4)=xc;cases x1<;>cases x2<;>cases x5<;>cases x6<;>cases xa<;>simp
 all_goals (cases x3<;>cases x4<;>cases x7<;>cases x8<;>cases x9<;>cases xc<;>simp)
theorem j8s (v:Int) (p:Pk) (s:Sl) (w:World) (hp:p.At s w) (hF:Fit p) (hcn:s.ca=none→p.codes.length=0∧s.cc=0) :
  Calls Tryz.prog 13 #[.int .i64 v,p.val s] w λe w'=>e=.returned (.bool (j3h v p))∧Kept No w w':=by
 let RR:Ending→World→Prop:=λe w'=>e=.returned (.bool (j3h v p))∧Kept No w w'
 go_enter Tryz.func13,Tryz.ntmps13
 generalize hA:({tmps:=_,defers:=[]}:Act)=A;have F:Fr A 141 [(1,(Pk.val p s)),(0,(.int .i64 v))]:=by rw[← hA];exact (Fr.cons (i:=1) (v:=(Pk.val p s)) (Fr.cons (i:=0) (v:=(.int .i64 v)) (Fr.nil0 rfl rfl) rfl) rfl)
 clear hA;have H:=Hp.start w;refine sg λK1 hK1=>?_;refine ja (c:=(Pk.cells p s)) (t:=34) F H rfl (qO rfl (F.e rfl) (qP _ _)) ?_;clear F A;intro b2 W A hk hN H9 F;clear H;have H:=H9;clear H9;clear hk hN;refine zd ?_;intro A F;refine nn (hK1 _ _) ?_;refine wp_seq_k λK3 hK3=>?_;refine wp_seq_k λK4 hK4=>?_;refine wp_region_held_drew (S:=λwx=>Hp _ wx _) (by kernel_rfl) H.drew (λH9=>?_);clear H;have H:=H9;clear H9;generalize World.drew _=W at *;refine td 0 ?_;intro A F;refine jR (i:=1) F rfl rfl (by kernel_rfl) (λ_ _ _ h=>h) (H) (λwz H=>(jF rfl (F.e rfl) jA (vn))) ?_;intro A F;refine td 2 ?_;intro A F;refine vN (i:=3) F rfl rfl (by kernel_rfl) (λ_ _ _ _ h=>h) (H) (je F rfl rfl rfl) (λhG wz H=>(qQ rfl (F.e rfl))) ?_;intro A F;refine vN (i:=4) F rfl rfl (by kernel_rfl) (λ_ _ _ _ h=>h) (H) (je F rfl rfl rfl) (λhG wz H=>(jF rfl (F.o rfl hG) jA (vn))) ?_;intro A F;refine jR (i:=5) F rfl rfl (by kernel_rfl) (λ_ _ _ h=>h) (H) (λwz H=>(jJ rfl (F.e rfl) (λhx=>(F.o rfl hx)) rfl)) ?_;intro A F;refine td 6 ?_;intro A F;refine vN (i:=7) F rfl rfl (by kernel_rfl) (λ_ _ _ _ h=>h) (H) (jv F rfl rfl rfl) (λhG wz H=>(qp rfl (F.e rfl) (j49 _ _ _))) ?_;intro A F;refine vN (i:=8) F rfl rfl (by kernel_rfl) (λ_ _ _ _ h=>h) (H) (jv F rfl rfl rfl) (λhG wz H=>(jB rfl (F.o rfl hG) (qE (j4q _) (H.c 0 rfl rfl)))) ?_;intro A F;refine vN (i:=9) F rfl rfl (by kernel_rfl) (λ_ _ _ _ h=>h) (H) (jv F rfl rfl rfl) (λhG wz H=>(jF rfl (F.o rfl hG) jA (jBw))) ?_;intro A F;refine jR (i:=10) F rfl rfl (by kernel_rfl) (λ_ _ _ h=>h) (H) (λwz H=>(jN rfl (F.e rfl) (λhx=>(F.o rfl (gnt hx))) rfl)) ?_;intro A F;refine td 11 ?_;intro A F;refine vN (i:=12) F rfl rfl (by kernel_rfl) (λ_ _ _ _ h=>h) (H) (jv F rfl rfl rfl) (λhG wz H=>(qp rfl (F.e rfl) (j49 _ _ _))) ?_;intro A F;refine vN (i:=13) F rfl rfl (by kernel_rfl) (λ_ _ _ _ h=>h) (H) (jv F rfl rfl rfl) (λhG wz H=>(jB rfl (F.o rfl hG) (qE (j4q _) (H.c 0 rfl rfl)))) ?_;intro A F;refine vN (i:=14) F rfl rfl (by kernel_rfl) (λ_ _ _ _ h=>h) (H) (jv F rfl rfl rfl) (λhG wz H=>(jF rfl (F.o rfl hG) jA (jHm))) ?_;intro A F;refine jR (i:=15) F rfl rfl (by kernel_rfl) (λ_ _ _ h=>h) (H) (λwz H=>(jN rfl (F.e rfl) (λhx=>(F.o rfl (gnt hx))) rfl)) ?_;intro A F;refine td 16 ?_;intro A F;refine vN (i:=17) F rfl rfl (by kernel_rfl) (λ_ _ _ _ h=>h) (H) (jv F rfl rfl rfl) (λhG wz H=>(qQ rfl (F.e rfl))) ?_;intro A F;refine vN (i:=18) F rfl rfl (by kernel_rfl) (λ_ _ _ _ h=>h) (H) (jv F rfl rfl rfl) (λhG wz H=>(jF rfl (F.o rfl hG) jA (jG))) ?_;intro A F;refine vN (i:=19) F rfl rfl (by kernel_rfl) (λ_ _ _ _ h=>h) (H) (jv F rfl rfl rfl) (λhG wz H=>(qQ rfl (F.o rfl hG))) ?_;intro A F;refine vN (i:=20) F rfl rfl (by kernel_rfl) (λ_ _ _ _ h=>h) (H) (zy F rfl rfl rfl) (λhG wz H=>(qp rfl (F.e rfl) (j49 _ _ _))) ?_;intro A F;refine vN (i:=21) F rfl rfl (by kernel_rfl) (λ_ _ _ _ h=>h) (H) (zy F rfl rfl rfl) (λhG wz H=>(jB rfl (F.o rfl hG) (qE (j4q _) (H.c 0 rfl rfl)))) ?_;intro A F;refine vN (i:=22) F rfl rfl (by kernel_rfl) (λ_ _ _ _ h=>h) (H) (zy F rfl rfl rfl) (λhG wz H=>(jF rfl (F.o rfl hG) jA (jG))) ?_;intro A F;refine vN (i:=23) F rfl rfl (by kernel_rfl) (λ_ _ _ _ h=>h) (H) (jv F rfl rfl rfl) (λhG wz H=>(jJ rfl (F.o rfl hG) (λhx=>(F.o rfl (gai hG hx))) rfl)) ?_;intro A F;refine jR (i:=24) F rfl rfl (by kernel_rfl) (λ_ _ _ h=>h) (H) (λwz H=>(jN rfl (F.e rfl) (λhx=>(F.o rfl (gnt hx))) rfl)) ?_;intro A F;refine td 25 ?_;intro A F;refine vN (i:=26) F rfl rfl (by kernel_rfl) (λ_ _ _ _ h=>h) (H) (jv F rfl rfl rfl) (λhG wz H=>(jB rfl (F.e rfl) (jE ((Pk.cells p s)) rfl (jr _) (jS _) (λi=>H.cs 0 rfl i)))) ?_;intro A F
 refine vN (i:=27) F rfl rfl (by kernel_rfl) (λ_ _ _ _ h=>h) (H) (jv F rfl rfl rfl) (λhG wz H=>(jB rfl (F.e rfl) (jE ((Pk.cells p s)) rfl (jr _) (jS _) (λi=>H.cs 0 rfl i)))) ?_;intro A F;refine xm (i:=28) F rfl rfl (by kernel_rfl) (jv F rfl rfl rfl) (λhG=>(j5 rfl rfl (j4 (F.o rfl hG) j8) jO5)) (λhG=>jEo p s _ (hp.kept H.k)) (λ_ hk=>H.kept hk) ?_;clear F H A;intro W A hk H F;clear hk;refine xm (i:=29) F rfl rfl (by kernel_rfl) (jv F rfl rfl rfl) (λhG=>(j5 rfl rfl (j4 (F.o rfl hG) (j4 (F.o rfl hG) j8)) jM8)) (λhG=>j09 p (jj p) s (q7 p s) _ (hp.kept H.k) (jA6 (hp.kept H.k)) hF.few (j94 hF.few) ⟨λh=>(hcn h).2⟩ ⟨λh=>jA7 hcn h⟩) (λ_ hk=>H.kept hk) ?_;clear F H A;intro W A hk H F;clear hk;refine vN (i:=30) F rfl rfl (by kernel_rfl) (λ_ _ _ _ h=>h) (H) (jv F rfl rfl rfl) (λhG wz H=>(j4w rfl (F.o rfl hG))) ?_;intro A F;refine jR (i:=31) F rfl rfl (by kernel_rfl) (λ_ _ _ h=>h) (H) (λwz H=>(jN rfl (F.e rfl) (λhx=>(F.o rfl (gnt hx))) rfl)) ?_;intro A F;refine wpAnyH_done (by kernel_rfl) ?_ _;refine hK4 _ _ ?_;refine zc (λhb7=>?_) (λhb7=>?_)
 ·skip
  replace F:=(((F.nil.cons (F.g 4 _ rfl)).cons (F.g 3 _ rfl)).cons (F.g 0 _ rfl))
  refine sg λK8 hK8=>?_;refine zd ?_;intro A F;refine nn (hK8 _ _) ?_;refine j9 ?_;refine (show bodyPost _ Tryz.f13 RR Exit.ret _ _ from zr ?_);exact ⟨congrArg (λb=>Ending.returned (.bool b)) (by rw[qw];simp only[hb7,cond_true,cond_false]),H.k⟩
 replace F:=(((F.nil.cons (F.g 4 _ rfl)).cons (F.g 3 _ rfl)).cons (F.g 0 _ rfl))
 refine wp_skip (hK3 _ _ ?_);refine wp_seq_k λK9 hK9=>?_;refine sg λK10 hK10=>?_;refine zd ?_;intro A F;refine zb (jG) ?_;intro A F;refine zd ?_;intro A F
 iterate 2 (refine zg ?_;intro A F)
 refine q6 F rfl (je F rfl rfl rfl) (λhG=>(ju rfl (j4 (F.o rfl hG) j8) (jk Tryz.underlying31))) ?_;intro A F;refine zgb (qa (i:=p.props.length) (j:=0)) ?_;intro A F
 iterate 3 (refine zg ?_;intro A F)
 refine q6 F rfl (j9u F rfl rfl rfl) (λhG=>(ju rfl (j4 (F.o rfl hG) j8) (jk Tryz.underlying31))) ?_;intro A F;refine zgb (qa (i:=p.willProps.length) (j:=0)) ?_;intro A F;refine zg ?_;intro A F;refine j3 F rfl (jJ rfl (F.e rfl) (λhx=>(F.o rfl hx)) rfl) ?_;intro A F;refine zd ?_;intro A F
 iterate 4 (refine zg ?_;intro A F)
 refine jl F H rfl (jv F rfl rfl rfl) (λhG=>(j5 rfl rfl (j4 (F.o rfl hG) (j4 (F.o rfl hG) j8)) jL1)) (λhG=>j5w p.kind s.pa s.pc p.props _ (hp.kept H.k).hp hF.few.hp hF.wf.p) ?_;clear F H A;intro W A hk H F;clear hk;refine zg ?_;intro A F;refine j3 F rfl (jN rfl (F.e rfl) (λhx=>(F.o rfl (gnt hx))) rfl) ?_;intro A F;refine zd ?_;intro A F
 iterate 2 (refine zg ?_;intro A F)
 refine jl F H rfl (jv F rfl rfl rfl) (λhG=>(j5 rfl rfl (j4 jA (j4 (F.o rfl hG) j8)) jL1)) (λhG=>j5w 16 s.wa s.wc p.willProps _ (hp.kept H.k).hw hF.few.hw hF.wf.w) ?_;clear F H A;intro W A hk H F;clear hk;refine zg ?_;intro A F;refine j3 F rfl (jN rfl (F.e rfl) (λhx=>(F.o rfl (gnt hx))) rfl) ?_;intro A F;refine nn (hK10 _ _) ?_;refine zc (λhb13=>?_) (λhb13=>?_)
 ·skip
  replace F:=(((F.nil.cons (F.g 4 _ rfl)).cons (F.g 3 _ rfl)).cons (F.g 0 _ rfl))
  refine sg λK14 hK14=>?_;refine zd ?_;intro A F;refine nn (hK14 _ _) ?_;refine j9 ?_;refine (show bodyPost _ Tryz.f13 RR Exit.ret _ _ from zr ?_);exact ⟨congrArg (λb=>Ending.returned (.bool b)) (by rw[qw];simp only[hb7,hb13,cond_true,cond_false]),H.k⟩
 replace F:=(((F.nil.cons (F.g 4 _ rfl)).cons (F.g 3 _ rfl)).cons (F.g 0 _ rfl))
 refine wp_skip (hK9 _ _ ?_);refine wp_seq_k λK15 hK15=>?_;refine sg λK16 hK16=>?_
 iterate 2 (refine zd ?_;intro A F)
 refine zb (jBv) ?_;intro A F;refine zd ?_;intro A F
 iterate 2 (refine zg ?_;intro A F)
 refine zgb (jHn) ?_;intro A F;refine j3 F rfl (jJ rfl (F.e rfl) (λhx=>(F.o rfl hx)) rfl) ?_;intro A F;refine zd ?_;intro A F
 iterate 2 (refine zg ?_;intro A F)
 refine zgb (jt (i:=p.id) (j:=0)) ?_;intro A F;refine j3 F rfl (jJ rfl (F.e rfl) (λhx=>(F.o rfl hx)) rfl) ?_;intro A F;refine zd ?_;intro A F;refine zg ?_;intro A F;refine q6 F rfl (jv F rfl rfl rfl) (λhG=>(jB rfl (F.e rfl) (jE ((Pk.cells p s)) rfl (jr _) (jS _) (λi=>H.cs 0 rfl i)))) ?_;intro A F;refine jl F H rfl (jv F rfl rfl rfl) (λhG=>(j5 rfl rfl (j4 (F.o rfl hG) (j4 (F.o rfl hG) j8)) jO6)) (λhG=>jBt v p s _ (hp.kept H.k) hF) ?_;clear F H A;intro W A hk H F;clear hk;refine zg ?_;intro A F;refine j3 F rfl (jN rfl (F.e rfl) (λhx=>(F.o rfl (gnt hx))) rfl) ?_;intro A F;refine nn (hK16 _ _) ?_;refine zc (λhb18=>?_) (λhb18=>?_)
 ·skip
  replace F:=(((F.nil.cons (F.g 4 _ rfl)).cons (F.g 3 _ rfl)).cons (F.g 0 _ rfl))
  refine sg λK19 hK19=>?_;refine zd ?_;intro A F;refine nn (hK19 _ _) ?_;refine j9 ?_;refine (show bodyPost _ Tryz.f13 RR Exit.ret _ _ from zr ?_);exact ⟨congrArg (λb=>Ending.returned (.bool b)) (by rw[qw];simp only[hb7,hb13,hb18,cond_true,cond_false]),H.k⟩
 replace F:=(((F.nil.cons (F.g 4 _ rfl)).cons (F.g 3 _ rfl)).cons (F.g 0 _ rfl))
 refine wp_skip (hK15 _ _ ?_);refine wp_seq_k λK20 hK20=>?_;refine sg λK21 hK21=>?_
 iterate 2 (refine zd ?_;intro A F)
 refine nn (hK21 _ _) ?_;refine wp_block ?_;refine sg λK22 hK22=>?_;refine zb (jG) ?_;intro A F;refine zd ?_;intro A F;refine nn (hK22 _ _) ?_;refine zc (λhb23=>?_) (λhb23=>?_)
 ·skip
  refine sg λK24 hK24=>?_;refine zd ?_;intro A F;refine j3 F rfl (jB rfl (F.e rfl) (jE ((Pk.cells p s)) rfl (jr _) (jS _) (λi=>H.cs 0 rfl i))) ?_;intro A F;refine jU F H rfl (j5 rfl rfl (j4 (F.e rfl) (j4 (F.e rfl) j8)) jO7) (j8n v p s _ (hp.kept H.k) hF) ?_;clear F H A;intro W A hk H F;clear hk;refine zd ?_;intro A F;refine nn (hK24 _ _) ?_;refine j9 ?_;refine (show bodyPost _ Tryz.f13 RR Exit.ret _ _ from zr ?_);exact ⟨congrArg (λb=>Ending.returned (.bool b)) (by rw[qw];simp only[hb7,hb13,hb18,cond_true,cond_false];(try simp only[← nE9,oE9,aE9,dE9]at hb23);unfold xA;simp only[hb23,↓reduceIte,or_true,true_or,or_self,Int.reduceEq,or_false,false_or]<;>(first|done|rfl|(simp;done)|(simp_all;done))),H.k⟩
 refine sg λK26 hK26=>?_;refine zb (jG) ?_;intro A F;refine zd ?_;intro A F;refine nn (hK26 _ _) ?_;refine zc (λhb27=>?_) (λhb27=>?_)
 ·skip
  refine sg λK28 hK28=>?_
  iterate 3 (refine zd ?_;intro A F)
  refine jU F H rfl (j5 rfl rfl (j4 (F.e rfl) (j4 jA (j4 (F.e rfl) j8))) j2h) (vU v 2 p.code _ hF.code) ?_;clear F H A;intro W A hk H F;clear hk;refine zd ?_;intro A F
  iterate 5 (refine zg ?_;intro A F)
  refine zgb (qN (i:=p.code) (j:=0)) ?_;intro A F
  iterate 2 (refine zg ?_;intro A F)
  refine j3 F rfl (jJ rfl (F.e rfl) (λhx=>(F.o rfl hx)) rfl) ?_;intro A F;refine zd ?_;intro A F;refine nn (hK28 _ _) ?_;refine j9 ?_;refine (show bodyPost _ Tryz.f13 RR Exit.ret _ _ from zr ?_);exact ⟨congrArg (λb=>Ending.returned (.bool b)) (by rw[qw];simp only[hb7,hb13,hb18,cond_true,cond_false];(try simp only[← nE9,oE9,aE9,dE9]at hb23 hb27);unfold xA;simp only[hb23,hb27,↓reduceIte,or_true,true_or,or_self,Int.reduceEq,or_false,false_or]<;>(first|done|rfl|(simp;done)|(simp_all;done))),H.k⟩
 refine sg λK30 hK30=>?_;refine zb (jG) ?_;intro A F;refine zd ?_;intro A F;refine nn (hK30 _ _) ?_;refine zc (λhb31=>?_) (λhb31=>?_)
 ·skip
  refine sg λK32 hK32=>?_;refine zd ?_;intro A F;refine j3 F rfl (jB rfl (F.e rfl) (jE ((Pk.cells p s)) rfl (jr _) (jS _) (λi=>H.cs 0 rfl i))) ?_;intro A F;refine jU F H rfl (j5 rfl rfl (j4 (F.e rfl) (j4 (F.e rfl) j8)) jO8) (j8t v p s _ (hp.kept H.k) hF) ?_;clear F H A;intro W A hk H F;clear hk;refine zd ?_;intro A F;refine nn (hK32 _ _) ?_;refine j9 ?_;refine (show bodyPost _ Tryz.f13 RR Exit.ret _ _ from zr ?_);exact ⟨congrArg (λb=>Ending.returned (.bool b)) (by rw[qw];simp only[hb7,hb13,hb18,cond_true,cond_false];(try simp only[← nE9,oE9,aE9,dE9]at hb23 hb27 hb31);unfold xA;simp only[hb23,hb27,hb31,↓reduceIte,or_true,true_or,or_self,Int.reduceEq,or_false,false_or]<;>(first|done|rfl|(simp;done)|(simp_all;done))),H.k⟩
 refine wp_seq_k λK34 hK34=>?_;refine sg λK35 hK35=>?_;refine zb (jG) ?_;intro A F;refine zd ?_;intro A F;refine nn (hK35 _ _) ?_;refine zc (λhb36=>?_) (λhb36=>?_)
 ·skip
  refine wp_skip (hK34 _ _ ?_);refine wp_cond_true ((F.e rfl).trans (congrArg Value.bool hb36)) ?_;refine sg λK37 hK37=>?_
  iterate 5 (refine zd ?_;intro A F)
  refine jU F H rfl (j5 rfl rfl (j4 (F.e rfl) (j4 (F.e rfl) (j4 (F.e rfl) j8))) j2h) (vU v p.kind p.code _ hF.code) ?_;clear F H A;intro W A hk H F;clear hk;refine zd ?_;intro A F;refine nn (hK37 _ _) ?_;refine j9 ?_;refine (show bodyPost _ Tryz.f13 RR Exit.ret _ _ from zr ?_);exact ⟨congrArg (λb=>Ending.returned (.bool b)) (by rw[qw];simp only[hb7,hb13,hb18,cond_true,cond_false];(try simp only[← nE9,oE9,aE9,dE9]at hb23 hb27 hb31 hb36);unfold xA;simp only[hb23,hb27,hb31,hb36,↓reduceIte,or_true,true_or,or_self,Int.reduceEq,or_false,false_or]<;>(first|done|rfl|(simp;done)|(simp_all;done))),H.k⟩
 refine sg λK39 hK39=>?_;refine zb (jG) ?_;intro A F;refine zd ?_;intro A F;refine nn (hK39 _ _) ?_;refine zc (λhb40=>?_) (λhb40=>?_)
 ·skip
  refine wp_skip (hK34 _ _ ?_);refine wp_cond_true ((F.e rfl).trans (congrArg Value.bool hb40)) ?_;refine sg λK41 hK41=>?_
  iterate 5 (refine zd ?_;intro A F)
  refine jU F H rfl (j5 rfl rfl (j4 (F.e rfl) (j4 (F.e rfl) (j4 (F.e rfl) j8))) j2h) (vU v p.kind p.code _ hF.code) ?_;clear F H A;intro W A hk H F;clear hk;refine zd ?_;intro A F;refine nn (hK41 _ _) ?_;refine j9 ?_;refine (show bodyPost _ Tryz.f13 RR Exit.ret _ _ from zr ?_);exact ⟨congrArg (λb=>Ending.returned (.bool b)) (by rw[qw];simp only[hb7,hb13,hb18,cond_true,cond_false];(try simp only[← nE9,oE9,aE9,dE9]at hb23 hb27 hb31 hb36 hb40);unfold xA;simp only[hb23,hb27,hb31,hb36,hb40,↓reduceIte,or_true,true_or,or_self,Int.reduceEq,or_false,false_or]<;>(first|done|rfl|(simp;done)|(simp_all;done))),H.k⟩
 refine sg λK43 hK43=>?_;refine zb (jG) ?_;intro A F;refine zd ?_;intro A F;refine nn (hK43 _ _) ?_;refine zc (λhb44=>?_) (λhb44=>?_)
 ·skip
  refine wp_skip (hK34 _ _ ?_);refine wp_cond_true ((F.e rfl).trans (congrArg Value.bool hb44)) ?_;refine sg λK45 hK45=>?_
  iterate 5 (refine zd ?_;intro A F)
  refine jU F H rfl (j5 rfl rfl (j4 (F.e rfl) (j4 (F.e rfl) (j4 (F.e rfl) j8))) j2h) (vU v p.kind p.code _ hF.code) ?_;clear F H A;intro W A hk H F;clear hk;refine zd ?_;intro A F;refine nn (hK45 _ _) ?_;refine j9 ?_;refine (show bodyPost _ Tryz.f13 RR Exit.ret _ _ from zr ?_);exact ⟨congrArg (λb=>Ending.returned (.bool b)) (by rw[qw];simp only[hb7,hb13,hb18,cond_true,cond_false];(try simp only[← nE9,oE9,aE9,dE9]at hb23 hb27 hb31 hb36 hb40 hb44);unfold xA;simp only[hb23,hb27,hb31,hb36,hb40,hb44,↓reduceIte,or_true,true_or,or_self,Int.reduceEq,or_false,false_or]<;>(first|done|rfl|(simp;done)|(simp_all;done))),H.k⟩
 refine sg λK47 hK47=>?_;refine zb (jG) ?_;intro A F;refine zd ?_;intro A F;refine nn (hK47 _ _) ?_;refine zc (λhb48=>?_) (λhb48=>?_)
 ·skip
  replace F:=(((((F.nil.cons (F.g 114 _ rfl)).cons (F.g 87 _ rfl)).cons (F.g 4 _ rfl)).cons (F.g 3 _ rfl)).cons (F.g 0 _ rfl))
  refine wp_skip (hK34 _ _ ?_);refine wp_cond_true ((F.e rfl).trans (congrArg Value.bool hb48)) ?_;refine sg λK49 hK49=>?_
  iterate 5 (refine zd ?_;intro A F)
  refine jU F H rfl (j5 rfl rfl (j4 (F.e rfl) (j4 (F.e rfl) (j4 (F.e rfl) j8))) j2h) (vU v p.kind p.code _ hF.code) ?_;clear F H A;intro W A hk H F;clear hk;refine zd ?_;intro A F;refine nn (hK49 _ _) ?_;refine j9 ?_;refine (show bodyPost _ Tryz.f13 RR Exit.ret _ _ from zr ?_);exact ⟨congrArg (λb=>Ending.returned (.bool b)) (by rw[qw];simp only[hb7,hb13,hb18,cond_true,cond_false];(try simp only[← nE9,oE9,aE9,dE9]at hb23 hb27 hb31 hb36 hb40 hb44 hb48);unfold xA;simp only[hb23,hb27,hb31,hb36,hb40,hb44,hb48,↓reduceIte,or_true,true_or,or_self,Int.reduceEq,or_false,false_or]<;>(first|done|rfl|(simp;done)|(simp_all;done))),H.k⟩
 replace F:=(((((F.nil.cons (F.g 114 _ rfl)).cons (F.g 87 _ rfl)).cons (F.g 4 _ rfl)).cons (F.g 3 _ rfl)).cons (F.g 0 _ rfl))
 refine jC ?_;refine zb (jG) ?_;intro A F;refine zd ?_;intro A F;refine nn (hK34 _ _) ?_;refine zc (λhb51=>?_) (λhb51=>?_)
 ·skip
  refine sg λK52 hK52=>?_
  iterate 5 (refine zd ?_;intro A F)
  refine jU F H rfl (j5 rfl rfl (j4 (F.e rfl) (j4 (F.e rfl) (j4 (F.e rfl) j8))) j2h) (vU v p.kind p.code _ hF.code) ?_;clear F H A;intro W A hk H F;clear hk;refine zd ?_;intro A F;refine nn (hK52 _ _) ?_;refine j9 ?_;refine (show bodyPost _ Tryz.f13 RR Exit.ret _ _ from zr ?_);exact ⟨congrArg (λb=>Ending.returned (.bool b)) (by rw[qw];simp only[hb7,hb13,hb18,cond_true,cond_false];(try simp only[← nE9,oE9,aE9,dE9]at hb23 hb27 hb31 hb36 hb40 hb44 hb48 hb51);unfold xA;simp only[hb23,hb27,hb31,hb36,hb40,hb44,hb48,hb51,↓reduceIte,or_true,true_or,or_self,Int.reduceEq,or_false,false_or]<;>(first|done|rfl|(simp;done)|(simp_all;done))),H.k⟩
 refine sg λK54 hK54=>?_;refine zb (jG) ?_;intro A F;refine zd ?_;intro A F;refine nn (hK54 _ _) ?_;refine zc (λhb55=>?_) (λhb55=>?_)
 ·skip
  refine sg λK56 hK56=>?_
  iterate 2 (refine zd ?_;intro A F)
  refine vE (R:=λvv ww=>∃ x9:Pr,vv=.tuple #[.agg #[.int .u8 x9.id,.int .u32 x9.n,.string x9.a,.string x9.b],.bool (xN p.props 21).isSome]) F H rfl (j5 rfl rfl (j4 (F.e rfl) (j4 jA j8)) jL2) ((j5y s.pa s.pc p.props 21 _ (hp.kept H.k).hp hF.few.hp).mono λe9 ww h9=>⟨_,h9.1,⟨_,rfl⟩,h9.2⟩) ?_;clear F H A;intro vv W A hR hk H F;obtain ⟨x57,rfl⟩:=hR;clear hk
  iterate 3 (refine zd ?_;intro A F)
  refine ja (c:=#[(.int .u8 0),(.int .u32 0),(.string ⟨#[]⟩),(.string ⟨#[]⟩)]) (t:=89) F H rfl (jY rfl (jKp _)) ?_;clear F A;intro b58 W A hk hN H9 F;clear H;have H:=H9;clear H9;clear hk hN;obtain ⟨W9,hr,hB,hk⟩:=j7 (P:=Tryz.prog) (S:=89) (c:=#[(.int .u8 ((x57.id:Int))),(.int .u32 ((x57.n:Int))),(.string x57.a),(.string x57.b)]) _ (H.b.at_ (j:=0) rfl).1 (jLb _) rfl (by simp[Value.oneCell']);refine jW (jD rfl (F.e rfl) (F.e rfl) hr) ?_;clear hr;replace H:Hp _ _ [_,_]:=Hp.turn [] H hk hB;clear hk hB;refine zd ?_;intro A F;refine nn (hK56 _ _) ?_;refine sg λK59 hK59=>?_
  iterate 3 (refine zd ?_;intro A F)
  refine jU F H rfl (j5 rfl rfl (j4 (F.e rfl) (j4 jA (j4 (F.e rfl) j8))) j2h) (vU v 15 p.code _ hF.code) ?_;clear F H A;intro W A hk H F;clear hk;refine zd ?_;intro A F;refine zg ?_;intro A F;refine j3 F rfl (jJ rfl (F.e rfl) (λhx=>(F.o rfl hx)) rfl) ?_;intro A F;refine zd ?_;intro A F;refine nn (hK59 _ _) ?_;refine j9 ?_;refine (show bodyPost _ Tryz.f13 RR Exit.ret _ _ from zr ?_);exact ⟨congrArg (λb=>Ending.returned (.bool b)) (by rw[qw];simp only[hb7,hb13,hb18,cond_true,cond_false];(try simp only[← nE9,oE9,aE9,dE9]at hb23 hb27 hb31 hb36 hb40 hb44 hb48 hb51 hb55);unfold xA;simp only[hb23,hb27,hb31,hb36,hb40,hb44,hb48,hb51,hb55,↓reduceIte,or_true,true_or,or_self,Int.reduceEq,or_false,false_or]<;>(first|done|rfl|(simp;done)|(simp_all;done))),H.k⟩
 refine wp_skip (hK20 _ _ ?_);refine sg λK61 hK61=>?_;refine zd ?_;intro A F;refine nn (hK61 _ _) ?_;refine j9 ?_;refine (show bodyPost _ Tryz.f13 RR Exit.ret _ _ from zr ?_);exact ⟨congrArg (λb=>Ending.returned (.bool b)) (by rw[qw];simp only[hb7,hb13,hb18,cond_true,cond_false];(try simp only[← nE9,oE9,aE9,dE9]at hb23 hb27 hb31 hb36 hb40 hb44 hb48 hb51 hb55);unfold xA;simp only[hb23,hb27,hb31,hb36,hb40,hb44,hb48,hb51,hb55,↓reduceIte,or_true,true_or,or_self,Int.reduceEq,or_false,false_or]<;>(first|done|rfl|(simp;done)|(simp_all;done))),H.k⟩
def ts:Sl:=⟨none,0,none,0,none,0,none,0⟩
theorem Small.few {p:Pk} (h:Small p):p.few:=⟨by have:=h.nw;omega,by have:=h.nf;omega,by have:=h.sum;omega,by have:=h.np;omega⟩
end Go.Proofs.YtnehnjklgglliaaGreatDoor
