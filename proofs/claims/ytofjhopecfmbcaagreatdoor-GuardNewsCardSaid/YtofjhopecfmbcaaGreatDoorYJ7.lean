import Derived.Test.YtofjhopecfmbcaaGreatDoorYH4
import Derived.Lib.SliceRun
namespace Go.Proofs.YtofjhopecfmbcaaGreatDoor
open Go.RowKit
set_option linter.unusedVariables false
set_option linter.unusedSimpArgs false
section
variable {P:Program} {t1 z1 t2 z2:Nat} {o1 o2:List Nat} {k1 k2:TK} {b1 b2:Bool} {ops:Array Oper} {Q:Kn} {rest:List Oper} {N n:Nat} {L:List (Nat × Value)} {c:World} {M:List Bl} {R:List Rwv} {v:Value} {ty:TypeId} {ps:String} {af:Array Edge} {gd:Option (Nat × Bool)} {e k i m cp:Nat} {a:Option Addr} {xs:List Value} {ex:Exit} {xc:Code} {x y:Operand}
end
section
variable {P:Program} {t1 z1:Nat} {o1:List Nat} {k1:TK} {b1:Bool} {ops:Array Oper} {Q:Kn} {N n i fuel:Nat} {listed listed':List Bool} {L:List (Nat × Value)} {cH c:World} {H M:List Bl} {R:List Rwv} {ty:TypeId} {ps:String} {af:Array Edge} {gd:Option (Nat × Bool)} {x:Operand} {a:Option Addr} {m cp:Nat}
theorem Row.part {w:World} {k p cap:Nat} {xs:List Value} {q:Nat} (h:Row w a xs) (hc:xs.length≤cap * k):Row w (if cap=p then a else a.map (·.add (p * k))) ((xs.drop (p * k)).take (q * k)):=by
 rcases h with h|⟨b,off,rfl,h1,h2⟩
 ·exact .inl (by rw[h];simp)
 ·by_cases hp:cap=p
  ·subst hp
   exact .inl (by rw[List.drop_of_length_le hc];simp)
  ·rw[if_neg hp]
   refine .inr ⟨b,off+p * k,by simp[Addr.add],h1,fun j u hj=>?_⟩;rw[List.getElem?_take]at hj
   split at hj
   ·rw[List.getElem?_drop]at hj
    have:=h2 _ u hj
    rwa [← Nat.add_assoc]at this
   ·cases hj
end
section
variable {P:Program} {t1 z1 t2 z2:Nat} {o1 o2:List Nat} {k1 k2:TK} {b1 b2:Bool} {ops:Array Oper} {Q:Kn} {rest:List Oper} {N n i fuel:Nat} {listed listed':List Bool} {L:List (Nat × Value)} {cH c:World} {H M:List Bl} {R:List Rwv} {v:Value} {ty:TypeId} {ps:String} {af:Array Edge} {gd:Option (Nat × Bool)} {x y:Operand}
theorem ty_ar [Tbv P] {T t sz n e:Nat} {b:Bool} {o:List Nat} (h:fty (Tbv.ts P) T=some ⟨t,b,sz,o,.ar n e⟩):P.underlying T=some (.array n e):=by
 obtain ⟨i,d,h1,h2,h3,h4,h5,h6,h7⟩:=fty_ok h;rw[h2];cases d<;>simp[tkOf]at h7
 rw[h7.1,h7.2]
theorem rn_ixa [Tbv P] {t g off s n9 e9:Nat} {ik:IntKind} {ii:Int} (j:Nat) (w:World) (hj:ii=(j:Int)) (hm:j < n9) (hT:fty (Tbv.ts P) t=some ⟨t1,true,z1,o1,.ar n9 e9⟩) (hE:fty (Tbv.ts P) e9=some ⟨t2,b2,s,o2,k2⟩):(Instr.indexAt t (.pointer (some ⟨g,off,none⟩)) (.int ik ii)).run P w=.ok (.pointer (some ⟨g,off+j * s,none⟩)) w:=by
 have h1:=ty_ar hT;have he:P.elem t=e9:=by simp[Program.elem,h1]
 have hl:P.arrayLen t=n9:=by simp[Program.arrayLen,h1]
 subst hj;rw[run_indexAt_array w t _ ik _ (by rw[he,hl];exact h1),hl,he,if_pos (by omega),ty_size hE w];simp[Result.andThen,Addr.add_lit]
theorem vixa [Tbv P] {t g off s n9 e9:Nat} {ik:IntKind} {ii:Int} (j:Nat) (kk:LG P ops Q rest N ((n,.pointer (some ⟨g,off+j * s,none⟩)) :: L) c M R) (hx:lko L x=some (.pointer (some ⟨g,off,none⟩)):=by rfl) (hy:lko L y=some (.int ik ii):=by rfl) (hj:ii=(j:Int):=by rfl) (hT:fty (Tbv.ts P) t=some ⟨t1,true,z1,o1,.ar n9 e9⟩:=by rfl) (hm:Nat.blt j n9=true:=by rfl) (hE:fty (Tbv.ts P) e9=some ⟨t2,b2,s,o2,k2⟩:=by rfl) (hw:wtd ops L gd=some true:=by rfl) (hn:Nat.blt n N=true:=by rfl) :
  LG P ops Q (⟨some n,.indexAddr t x y,ty,ps,af,gd⟩ :: rest) N L c M R:=kk.do_ (fun κ A w F S=>ex_idxaddr rfl (F.v hx) (F.v hy) (rn_ixa j w hj (by simpa [Nat.blt_eq] using hm) hT hE)) hw hn
theorem qixa [Tbv P] {t g off s n9 e9:Nat} {ik:IntKind} {ii:Int} (j:Nat) (hx:lko L x=some (.pointer (some ⟨g,off,none⟩))) (hy:lko L y=some (.int ik ii)) (hj:ii=(j:Int)) (hT:fty (Tbv.ts P) t=some ⟨t1,true,z1,o1,.ar n9 e9⟩) (hm:Nat.blt j n9=true) (hE:fty (Tbv.ts P) e9=some ⟨t2,b2,s,o2,k2⟩):Qo P N L c (.indexAddr t x y) (.pointer (some ⟨g,off+j * s,none⟩)) :=
 ⟨fun A w o9 ho F hc=>ex_idxaddr ho (F.v hx) (F.v hy) (rn_ixa j w hj (by simpa [Nat.blt_eq] using hm) hT hE)⟩
theorem vqxa [Tbv P] {t g off s n9 e9:Nat} {ik:IntKind} {ii:Int} (m j:Nat) (k:HG P ops Q cH H fuel listed' N ((n,.pointer (some ⟨g,off+j * s,none⟩)) :: L) c M R) (hx9:nthR ops listed m=some i:=by rfl) (hs9:setB listed i=some listed':=by rfl) (hi:ops[i]?=some ⟨some n,.indexAddr t x y,ty,ps,af,gd⟩:=by rfl) (hx:lko L x=some (.pointer (some ⟨g,off,none⟩)):=by rfl) (hy:lko L y=some (.int ik ii):=by rfl) (hj:ii=(j:Int):=by rfl) (hT:fty (Tbv.ts P) t=some ⟨t1,true,z1,o1,.ar n9 e9⟩:=by rfl) (hm:Nat.blt j n9=true:=by rfl) (hE:fty (Tbv.ts P) e9=some ⟨t2,b2,s,o2,k2⟩:=by rfl) (hr:frq ops listed i=true:=by kernel_rfl)
  (hQ:∀ κ c a w,Q κ (.panic c) (a.put (some n) (.pointer (some ⟨g,off+j * s,none⟩))) w→Q κ (.panic c) a w:=by exact fun _ _ _ _ h=>h) (hw:wtd ops L gd=some true:=by rfl) (hn:Nat.blt n N=true:=by rfl):HG P ops Q cH H (fuel+1) listed N L c M R:=vqx m k hx9 hs9 hi (qh_q (qixa j hx hy hj hT hm hE)) hr hQ hw hn
theorem qh_p [Tbv P] {T b t o m:Nat} {cH:World} {H:List Bl} {l l':List Value} (hv:lko L x=some (.pointer (some ⟨b,o,none⟩))) (hm:⟨b,t,l⟩∈H) (hT:fty (Tbv.ts P) T=some ⟨t1,true,m,o1,k1⟩) (hz:sub o m l=some l'):Qh P N L cH H (.load T x) (.agg l'.toArray) :=
 ⟨fun a w o9 ho F hs=>ex_load ho (F.v hv) (sl_part (k:=0) w (hs.2 _ hm) (ty_agg hT w) (by rw[(sub_eq hz).1];exact ty_size hT w) (sub_get hz))⟩
theorem vqxp [Tbv P] {T b t o z:Nat} {l l':List Value} (m:Nat) (k:HG P ops Q cH H fuel listed' N ((n,.agg l'.toArray) :: L) c M R) (hx9:nthR ops listed m=some i:=by rfl) (hs9:setB listed i=some listed':=by rfl) (hi:ops[i]?=some ⟨some n,.load T x,ty,ps,af,gd⟩:=by rfl) (hx:lko L x=some (.pointer (some ⟨b,o,none⟩)):=by rfl) (hm:⟨b,t,l⟩∈H:=by repeat constructor) (hT:fty (Tbv.ts P) T=some ⟨t1,true,z,o1,k1⟩:=by rfl) (hz:sub o z l=some l':=by rfl) (hr:frq ops listed i=true:=by kernel_rfl)
  (hQ:∀ κ c a w,Q κ (.panic c) (a.put (some n) (.agg l'.toArray)) w→Q κ (.panic c) a w:=by exact fun _ _ _ _ h=>h) (hw:wtd ops L gd=some true:=by rfl) (hn:Nat.blt n N=true:=by rfl):HG P ops Q cH H (fuel+1) listed N L c M R:=vqx m k hx9 hs9 hi (qh_p hx hm hT hz) hr hQ hw hn
theorem vqlmp [Tbv P] {T b t o z:Nat} {l l':List Value} (k:HG P ops Q cH H fuel listed' N ((n,.agg l'.toArray) :: L) c M R) (hx:al1 ops listed=some i:=by rfl) (hs9:setB listed i=some listed':=by rfl) (hi:ops[i]?=some ⟨some n,.load T x,ty,ps,af,gd⟩:=by rfl) (hv:lko L x=some (.pointer (some ⟨b,o,none⟩)):=by rfl) (hm:⟨b,t,l⟩∈M:=by repeat constructor) (hT:fty (Tbv.ts P) T=some ⟨t1,true,z,o1,k1⟩:=by rfl) (hz:sub o z l=some l':=by rfl) (hr:Region.ready .any ops listed.toArray=[i]:=by kernel_rfl) (hw:wtd ops L gd=some true:=by rfl) (hn:Nat.blt n N=true:=by rfl):HG P ops Q cH H (fuel+1) listed N L c M R :=
 HG.one_ (fun hC hH κ a w F S=>wpOp_val F hi hw hn (ex_load rfl (F.v hv) (sl_part (k:=0) w (S.m _ hm) (ty_agg hT w) (by rw[(sub_eq hz).1];exact ty_size hT w) (sub_get hz))) fun a' F'=>⟨S.hs hC hH,k.h hC hH κ a' w F' S⟩) hs9 hr
end
end Go.Proofs.YtofjhopecfmbcaaGreatDoor
