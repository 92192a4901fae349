import Derived.Test.YtofjhopecfmbcaaGreatDoorYH2
import Derived.Laws.IdiomStrings
import Derived.Laws.Strings2
import Derived.Laws.Slices
import Derived.Lib.BufferRead
import Derived.Laws.AppendOwn
import Derived.Test.YtofjhopecfmbcaaGreatDoorProg
namespace Go.Proofs.YtofjhopecfmbcaaGreatDoor
open Go.RowKit
set_option linter.unusedVariables false
set_option linter.unusedSimpArgs false
structure Qo (P:Program) (N:Nat) (L:List (Nat × Value)) (c:World) (op:Op) (v:Value):Prop where
 h:∀ a w (o:Oper),o.op=op→Vfr a N L→Le c w→(execOp a.eval o).run P w=.ok (.value v) w
def kr:IntKind→Option (Int × Int)
 | .u8=>some (0,255)|.u16=>some (0,65535)|.u32=>some (0,4294967295)|.u64=>some (0,18446744073709551615)
 | .i8=>some (-128,127)|.i16=>some (-32768,32767)|.i32=>some (-2147483648,2147483647)|.i64=>some (-9223372036854775808,9223372036854775807)
def km:IntKind→Option Int
 | .u8=>some 256|.u16=>some 65536|.u32=>some 4294967296|.u64=>some 18446744073709551616
 | _=>none
theorem wrap_in {k:IntKind} {lo hi i:Int} (h:kr k=some (lo,hi)) (h1:lo≤i) (h2:i≤hi):k.wrap i=i:=by
 cases k<;>simp only[kr,Option.some.injEq,Prod.mk.injEq]at h<;>obtain ⟨rfl,rfl⟩:=h<;>simp[IntKind.wrap,IntKind.bits,IntKind.signed]<;>omega
theorem wrap_un {k:IntKind} {m i:Int} (h:km k=some m):k.wrap i=i % m:=by
 cases k<;>simp[km]at h<;>subst h<;>simp[IntKind.wrap,IntKind.bits,IntKind.signed]
def pw:Int→Option (Nat × Int)
 | .ofNat 1=>some (1,2)|.ofNat 7=>some (7,128)|.ofNat 8=>some (8,256)|.ofNat 16=>some (16,65536)|.ofNat 24=>some (24,16777216)
 | _=>none
def nz:Int→Option Nat
 | .ofNat n=>some n
 | _=>none
theorem nz_eq {q:Int} {n:Nat} (h:nz q=some n):q=(n:Int):=by
 unfold nz at h
 split at h
 ·cases h;rfl
 ·cases h
def nzc:Int→Option Nat
 | .ofNat 1=>some 1|.ofNat 2=>some 2|.ofNat 3=>some 3|.ofNat 4=>some 4|.ofNat 8=>some 8|.ofNat 16=>some 16|.ofNat 32=>some 32|.ofNat 48=>some 48|.ofNat 56=>some 56|.ofNat 64=>some 64|.ofNat 128=>some 128|.ofNat 192=>some 192
 | _=>none
theorem nzc_eq {q:Int} {n:Nat} (h:nzc q=some n):q=(n:Int):=by
 unfold nzc at h
 split at h<;>first|(cases h;rfl)|cases h
section
variable {P:Program} {t1 z1 t2 z2:Nat} {o1 o2:List Nat} {k1:TK} {b1 b2:Bool} {ops:Array Oper} {Q:Kn} {rest:List Oper} {N n i fuel j m cp s e:Nat} {listed listed':List Bool} {L:List (Nat × Value)} {cH c:World} {H M:List Bl} {R:List Rwv} {v:Value} {ty:TypeId} {ps:String} {af:Array Edge} {op:Op} {gd:Option (Nat × Bool)} {x y:Operand} {k k':IntKind} {p q r lo hi:Int} {t u:TypeId}
theorem qcv [Tbv P] (hx:lko L x=some (.int k p)) (hs:fty (Tbv.ts P) t=some ⟨t1,b1,z1,o1,.int k⟩) (ht:fty (Tbv.ts P) u=some ⟨t2,b2,z2,o2,.int k'⟩) (hk:kr k'=some (lo,hi)) (h1:lo≤p) (h2:p≤hi):Qo P N L c (.convert t u x) (.int k' p) :=
 ⟨fun a w o ho F _=>ex_conv ho (F.v hx) (by
  have hd:P.intKind u=k':=by simp[Program.intKind,ty_int ht]
  rw[run_convert_int w t u k p (by rw[ty_int hs];rfl) (by rw[hd];exact ty_int ht),hd,wrap_in hk h1 h2])⟩
theorem qcn [Tbv P] (hx:lko L x=some (.int k p)) (hs:fty (Tbv.ts P) t=some ⟨t1,b1,z1,o1,.int k⟩) (ht:fty (Tbv.ts P) u=some ⟨t2,b2,z2,o2,.int k'⟩) (hk:km k'=some q):Qo P N L c (.convert t u x) (.int k' (p % q)) :=
 ⟨fun a w o ho F _=>ex_conv ho (F.v hx) (by
  have hd:P.intKind u=k':=by simp[Program.intKind,ty_int ht]
  rw[run_convert_int w t u k p (by rw[ty_int hs];rfl) (by rw[hd];exact ty_int ht),hd,wrap_un hk])⟩
theorem qad (hx:lko L x=some (.int k p)) (hy:lko L y=some (.int k q)) (hk:kr k=some (lo,hi)) (h1:lo≤p+q) (h2:p+q≤hi):Qo P N L c (.binOp .add t x y u) (.int k (p+q)) :=
 ⟨fun a w o ho F _=>ex_bin ho (F.v hx) (F.v hy) (rn_add (wrap_in hk h1 h2))⟩
theorem qsu (hx:lko L x=some (.int k p)) (hy:lko L y=some (.int k q)) (hk:kr k=some (lo,hi)) (h1:lo≤p - q) (h2:p - q≤hi):Qo P N L c (.binOp .sub t x y u) (.int k (p - q)) :=
 ⟨fun a w o ho F _=>ex_bin ho (F.v hx) (F.v hy) (rn_sub (wrap_in hk h1 h2))⟩
theorem qmu (hx:lko L x=some (.int k p)) (hy:lko L y=some (.int k q)) (hk:kr k=some (lo,hi)) (h1:lo≤p * q) (h2:p * q≤hi):Qo P N L c (.binOp .mul t x y u) (.int k (p * q)) :=
 ⟨fun a w o ho F _=>ex_bin ho (F.v hx) (F.v hy) (rn_mul (wrap_in hk h1 h2))⟩
theorem qqu (hx:lko L x=some (.int k p)) (hy:lko L y=some (.int k q)) (hk:kr k=some (lo,hi)) (h0:0≤p) (hq:0 < q) (h2:p≤hi):Qo P N L c (.binOp .quo t x y u) (.int k (p / q)) :=
 ⟨fun a w o ho F _=>ex_bin ho (F.v hx) (F.v hy) (rn_quo (by omega) (by
  rw[Int.tdiv_eq_ediv_of_nonneg h0];refine wrap_in hk ?_ ?_
  ·have:0≤p / q:=Int.ediv_nonneg h0 (by omega)
   have:lo≤0:=by cases k<;>simp[kr]at hk<;>omega
   omega
  ·have:=Int.ediv_le_self q h0
   omega))⟩
theorem qre (hx:lko L x=some (.int k p)) (hy:lko L y=some (.int k q)) (h0:0≤p) (hq:0 < q):Qo P N L c (.binOp .rem t x y u) (.int k (p % q)) :=
 ⟨fun a w o ho F _=>ex_bin ho (F.v hx) (F.v hy) (rn_rem (by omega) (Int.tmod_eq_emod_of_nonneg h0))⟩
theorem qsh (hx:lko L x=some (.int k p)) (hy:lko L y=some (.int k' q)) (hp:pw q=some (m,r)) (hm:Nat.ble m k.bits=true):Qo P N L c (.binOp .shr t x y u) (.int k (p / r)) :=
 ⟨fun a w o ho F _=>ex_bin ho (F.v hx) (F.v hy) (by
  have hq:q=(m:Int)∧r=2 ^ m∧m≠0:=by
   unfold pw at hp
   split at hp<;>first|(simp only[Option.some.injEq,Prod.mk.injEq]at hp;obtain ⟨rfl,rfl⟩:=hp;exact ⟨rfl,by decide,by decide⟩)|cases hp
  obtain ⟨rfl,rfl,h0⟩:=hq;have hm:=Nat.le_of_ble_eq_true hm;have e:Int.fdiv p (2 ^ m)=p / (2 ^ m):=Int.fdiv_eq_ediv_of_nonneg _ (Int.pow_nonneg (by decide));have hn:¬ ((m:Int) < 0):=by omega
  simp[eqGuard,binOp,Op.shift,Nat.min_eq_left hm,e,hn])⟩
theorem qan {m n:Nat} (hx:lko L x=some (.int .u8 p)) (hy:lko L y=some (.int .u8 q)) (hp:nz p=some m) (hq:nzc q=some n) (h1:m < 256) (h2:n < 256):Qo P N L c (.binOp .and t x y u) (.int .u8 (m &&& n:Nat)) :=
 ⟨fun a w o ho F _=>ex_bin ho (F.v hx) (F.v hy) (by rw[nz_eq hp,nzc_eq hq];exact rn_and8 h1 h2)⟩
theorem qao {m n:Nat} (hx:lko L x=some (.int .u8 p)) (hy:lko L y=some (.int .u8 q)) (hp:nz p=some m) (hq:nzc q=some n) (h1:m < 256) (h2:n < 256):Qo P N L c (.binOp .andNot t x y u) (.int .u8 (m &&& (255 - n):Nat)) :=
 ⟨fun a w o ho F _=>ex_bin ho (F.v hx) (F.v hy) (by rw[nz_eq hp,nzc_eq hq];exact rn_andNot8 h1 h2)⟩
theorem qsi [Tbv P] {sx:ByteArray} {b:UInt8} (hx:lko L x=some (.string sx)) (hy:lko L y=some (.int k p)) (ht:fty (Tbv.ts P) t=some ⟨t1,b1,z1,o1,.str⟩) (hb:sx.data.toList[j]?=some b) (hj:p=(j:Int)):Qo P N L c (.index t x y) (.int .u8 b.toNat) :=
 ⟨fun a w o ho F _=>ex_index ho (F.v hx) (F.v hy) (by
  subst hj
  have hl:j < sx.size:=by
   have:=(List.getElem?_eq_some_iff.1 hb).1
   rw[Array.length_toList]at this;exact this
  have h2:sx[j]'hl=b:=by
   have h3:=(List.getElem?_eq_some_iff.1 hb).2;rw[← h3]
   rfl
  rw[run_index_string w t sx k j (ty_str ht),dif_pos (by omega)];simp only[Int.toNat_natCast,h2])⟩
theorem Row.str {w:World} {src dst e:TypeId} (hs:P.underlying src=some (.slice e)) (he:P.underlying e=some (.int .u8)) (hd:P.underlying dst=some .string) {a:Option Addr} {l:List UInt8} (h:Row w a (B8 l)) {cap:Nat} (hn:a=none→cap=0):(convert src dst (.slice a l.length cap)).run P w=.ok (.string ⟨l.toArray⟩) w:=by
 cases a with
 | none =>
  obtain rfl:=hn rfl;rcases h with h|⟨b,off,h,_⟩
  ·obtain rfl:l=[]:=by cases l<;>simp_all [B8]
   exact Lib.run_convert_nil_bytes w src dst e 0 hs he hd
  ·cases h
 | some ad=>exact run_convert_bytes_back w src dst e ad cap l hs he hd fun j hj=>h.at_add ad rfl j _ (B8_get l j hj)
theorem qbs [Tbv P] {t3 z3:Nat} {o3:List Nat} {b3:Bool} {a:Option Addr} {l:List UInt8} (hx:lko L x=some (.slice a m cp)) (hs:fty (Tbv.ts P) t=some ⟨t1,b1,z1,o1,.sl e⟩) (he:fty (Tbv.ts P) e=some ⟨t3,b3,z3,o3,.int .u8⟩) (hd:fty (Tbv.ts P) u=some ⟨t2,b2,z2,o2,.str⟩) (hr:Row c a (B8 l)) (hm:m=l.length) (hn:a=none→cp=0):Qo P N L c (.convert t u x) (.string ⟨l.toArray⟩) :=
 ⟨fun A w o ho F hc=>ex_conv ho (F.v hx) (by subst hm;exact Row.str (ty_sl hs) (ty_int he) (ty_str hd) (hr.le hc) hn)⟩
theorem qsp [Tbv P] {sx:ByteArray} {lo9 hi9:Operand} (hx:lko L x=some (.string sx)) (hl:lko L lo9=some (.int k p)) (hh:lko L hi9=some (.int k' q)) (ht:fty (Tbv.ts P) t=some ⟨t1,b1,z1,o1,.str⟩) (h0:0≤p) (h1:p≤q) (h2:q≤sx.size):Qo P N L c (.slice t x (some lo9) (some hi9) none) (.string (sx.extract p.toNat q.toNat)) :=
 ⟨fun A w o ho F hc=>ex_slice ho (F.v hx) (l:=some (.int k p)) (h:=some (.int k' q)) (m:=none) (by simp[F.v hl]) (by simp[F.v hh]) rfl (by rw[run_sliceAt_string w t _ _ _ _ (ty_str ht),run_slice_string w t sx k k' p q (ty_str ht) h0 h1 h2])⟩
theorem qsf [Tbv P] {sx:ByteArray} {lo9:Operand} (hx:lko L x=some (.string sx)) (hl:lko L lo9=some (.int k p)) (ht:fty (Tbv.ts P) t=some ⟨t1,b1,z1,o1,.str⟩) (h0:0≤p) (h1:p≤sx.size):Qo P N L c (.slice t x (some lo9) none none) (.string (sx.extract p.toNat sx.size)) :=
 ⟨fun A w o ho F hc=>ex_slice ho (F.v hx) (l:=some (.int k p)) (h:=none) (m:=none) (by simp[F.v hl]) rfl rfl (by rw[run_sliceAt_string w t _ _ _ _ (ty_str ht),run_slice_string_l w t sx (ty_str ht) k p h0 h1])⟩
theorem qst [Tbv P] {sx:ByteArray} {hi9:Operand} (hx:lko L x=some (.string sx)) (hh:lko L hi9=some (.int k q)) (ht:fty (Tbv.ts P) t=some ⟨t1,b1,z1,o1,.str⟩) (h0:0≤q) (h2:q≤sx.size):Qo P N L c (.slice t x none (some hi9) none) (.string (sx.extract 0 q.toNat)) :=
 ⟨fun A w o ho F hc=>ex_slice ho (F.v hx) (l:=none) (h:=some (.int k q)) (m:=none) rfl (by simp[F.v hh]) rfl (by rw[run_sliceAt_string w t _ _ _ _ (ty_str ht),run_slice_string_h w t sx (ty_str ht) k q h0 h2])⟩
theorem qra [Tbv P] {T b o:Nat} {a:Option Addr} {l:List Value} (hx:lko L x=some (.pointer (some ⟨b,o,none⟩))) (hr:Rat c a s j b o l) (hT:fty (Tbv.ts P) T=some ⟨t1,true,z1,o1,k1⟩) (hz:l.length=z1):Qo P N L c (.load T x) (.agg l.toArray) :=
 ⟨fun A w o ho F hc=>ex_load ho (F.v hx) (gl_ra hr hc hT hz)⟩
theorem qrf [Tbv P] {T b o f r:Nat} {a:Option Addr} {l:List Value} (hx:lko L x=some (.pointer (some ⟨b,r,none⟩))) (hr:Rat c a s j b o l) (hq:r=o+f) (hT:fty (Tbv.ts P) T=some ⟨t1,false,z1,o1,k1⟩) (hi:nth l f=some v):Qo P N L c (.load T x) v :=
 ⟨fun A w o ho F hc=>ex_load ho (F.v hx) (gl_one (ty_agg hT w) (by rw[hq];exact hc.cell (hr.h f v hi)))⟩
theorem qr1 [Tbv P] {T b o:Nat} {a:Option Addr} {l:List Value} (hx:lko L x=some (.pointer (some ⟨b,o,none⟩))) (hr:Rat c a s j b o l) (hT:fty (Tbv.ts P) T=some ⟨t1,false,z1,o1,k1⟩) (hi:nth l 0=some v):Qo P N L c (.load T x) v :=
 ⟨fun A w o ho F hc=>ex_load ho (F.v hx) (gl_one (ty_agg hT w) (hc.cell (hr.h 0 v hi)))⟩
theorem vq (kk:LG P ops Q rest N ((n,v) :: L) c M R) (h:Qo P N L c op v:=by first
  | exact qcv rfl rfl rfl rfl (by omega) (by omega)
  | exact qcn rfl rfl rfl rfl
  | exact qad rfl rfl rfl (by omega) (by omega)
  | exact qsu rfl rfl rfl (by omega) (by omega)
  | exact qmu rfl rfl rfl (by first|omega|assumption) (by first|omega|assumption)
  | exact qqu rfl rfl rfl (by omega) (by omega) (by omega)
  | exact qre rfl rfl (by omega) (by omega)
  | exact qsh rfl rfl rfl rfl
  | exact qan rfl rfl rfl rfl (by first|assumption|omega) (by omega)
  | exact qao rfl rfl rfl rfl (by first|assumption|omega) (by omega)
  | exact qsi rfl rfl rfl (by assumption) (by first|rfl|assumption|omega)
  | exact qbs rfl rfl rfl rfl (by assumption) (by first|rfl|assumption|omega) (by assumption)
  | exact qsp rfl rfl rfl rfl (by omega) (by omega) (by omega)
  | exact qsf rfl rfl rfl (by omega) (by omega)
  | exact qst rfl rfl rfl (by omega) (by omega)
  | exact qra rfl (by assumption) rfl rfl
  | exact qr1 rfl (by assumption) rfl rfl
  | exact qrf rfl (by assumption) rfl rfl rfl) (hw:wtd ops L gd=some true:=by rfl) (hn:Nat.blt n N=true:=by rfl):LG P ops Q (⟨some n,op,ty,ps,af,gd⟩ :: rest) N L c M R :=
 kk.do_ (fun κ a w F S=>h.h a w _ rfl F S.le) hw hn
theorem vqq (kk:HG P ops Q cH H fuel listed' N ((n,v) :: L) c M R) (hx:nxq ops listed L=some i:=by rfl) (hs9:setB listed i=some listed':=by rfl) (hi:ops[i]?=some ⟨some n,op,ty,ps,af,gd⟩:=by rfl) (h:Qo P N L cH op v:=by first
  | exact qcv rfl rfl rfl rfl (by omega) (by omega)
  | exact qcn rfl rfl rfl rfl
  | exact qad rfl rfl rfl (by omega) (by omega)
  | exact qsu rfl rfl rfl (by omega) (by omega)
  | exact qmu rfl rfl rfl (by first|omega|assumption) (by first|omega|assumption)
  | exact qqu rfl rfl rfl (by omega) (by omega) (by omega)
  | exact qre rfl rfl (by omega) (by omega)
  | exact qsh rfl rfl rfl rfl
  | exact qan rfl rfl rfl rfl (by first|assumption|omega) (by omega)
  | exact qao rfl rfl rfl rfl (by first|assumption|omega) (by omega)
  | exact qsi rfl rfl rfl (by assumption) (by first|rfl|assumption|omega)
  | exact qbs rfl rfl rfl rfl (by assumption) (by first|rfl|assumption|omega) (by assumption)
  | exact qsp rfl rfl rfl rfl (by omega) (by omega) (by omega)
  | exact qsf rfl rfl rfl (by omega) (by omega)
  | exact qst rfl rfl rfl (by omega) (by omega)
  | exact qra rfl (by assumption) rfl rfl
  | exact qr1 rfl (by assumption) rfl rfl
  | exact qrf rfl (by assumption) rfl rfl rfl) (hr:frq ops listed i=true:=by kernel_rfl)
  (hQ:∀ κ c a w,Q κ (.panic c) (a.put (some n) v) w→Q κ (.panic c) a w:=by exact fun _ _ _ _ h=>h) (hw:wtd ops L gd=some true:=by rfl) (hn:Nat.blt n N=true:=by rfl):HG P ops Q cH H (fuel+1) listed N L c M R :=
 kk.take_ (fun a w F S=>h.h a w _ rfl F S.1) hi hs9 hr hQ hw hn
end
section
variable {P:Program} {t1 z1 t2 z2:Nat} {o1 o2:List Nat} {k1:TK} {b1 b2:Bool} {ops:Array Oper} {Q:Kn} {rest:List Oper} {N n i fuel j m cp s e:Nat} {listed listed':List Bool} {L:List (Nat × Value)} {cH c:World} {H M:List Bl} {R:List Rwv} {v:Value} {ty:TypeId} {ps:String} {af:Array Edge} {op:Op} {gd:Option (Nat × Bool)} {x y:Operand} {k k':IntKind} {p q r lo hi:Int} {t u:TypeId} {a:Option Addr} {l:List UInt8}
theorem B8_part {w:World} (h:Row w a (B8 l)) {p q cap:Nat} (hc:l.length≤cap):Row w (if cap=p then a else a.map (·.add (p * 1))) (B8 ((l.drop p).take q)):=by
 have h1:=(h.drop (k:=p) (cap:=cap) (by simpa [B8] using hc)).take q;simpa [B8,List.map_take,List.map_drop] using h1
theorem sl_nil {p cap:Nat} (h:a=none→cap=0):(if cap=p then a else a.map (·.add (p * 1)))=none→cap - p=0:=by
 intro hn
 split at hn
 ·omega
 ·rw[Option.map_eq_none_iff]at hn;have:=h hn;omega
theorem vslf [Tbv P] {t3:Nat} {o3:List Nat} {b3:Bool} {lo9:Operand} (kk:∀ a',Row c a' (B8 ((l.drop p.toNat).take (m - p.toNat)))→(a'=none→cp - p.toNat=0)→LG P ops Q rest N ((n,.slice a' (m - p.toNat) (cp - p.toNat)) :: L) c M R) (hx:lko L x=some (.slice a m cp):=by rfl) (hl:lko L lo9=some (.int k p):=by rfl) (hr:Row c a (B8 l):=by assumption) (hm:l.length≤cp:=by first|assumption|omega) (hn9:a=none→cp=0:=by assumption) (hs:fty (Tbv.ts P) t=some ⟨t1,b1,z1,o1,.sl e⟩:=by rfl) (he:fty (Tbv.ts P) e=some ⟨t3,b3,1,o3,.int .u8⟩:=by rfl) (h0:0≤p:=by omega) (h1:p≤m:=by omega) (hw:wtd ops L gd=some true:=by rfl) (hn:Nat.blt n N=true:=by rfl) :
  LG P ops Q (⟨some n,.slice t x (some lo9) none none,ty,ps,af,gd⟩ :: rest) N L c M R :=
 (kk _ (B8_part hr hm) (sl_nil hn9)).do_ (fun κ A w F S=>ex_slice rfl (F.v hx) (l:=some (.int k p)) (h:=none) (m:=none) (by simp[F.v hl]) rfl rfl (by
  have ht:=ty_sl hs;have hE:P.elem t=e:=by simp[Program.elem,ht]
  rw[run_sliceAt_slice w t _ _ _ _ (by rw[hE];exact ht),run_slice_l w t a m cp (by rw[hE];exact ht) k p h0 h1,hE,ty_size he w]
  rfl)) hw hn
theorem vslt [Tbv P] {t3:Nat} {o3:List Nat} {b3:Bool} {hi9:Operand} (kk:∀ a',Row c a' (B8 (l.take q.toNat))→(a'=none→cp=0)→LG P ops Q rest N ((n,.slice a' q.toNat cp) :: L) c M R) (hx:lko L x=some (.slice a m cp):=by rfl) (hh:lko L hi9=some (.int k q):=by rfl) (hr:Row c a (B8 l):=by assumption) (hm:l.length≤cp:=by first|assumption|omega) (hn9:a=none→cp=0:=by assumption) (hs:fty (Tbv.ts P) t=some ⟨t1,b1,z1,o1,.sl e⟩:=by rfl) (he:fty (Tbv.ts P) e=some ⟨t3,b3,1,o3,.int .u8⟩:=by rfl) (h0:0≤q:=by omega) (h2:q≤cp:=by omega) (hw:wtd ops L gd=some true:=by rfl) (hn:Nat.blt n N=true:=by rfl) :
  LG P ops Q (⟨some n,.slice t x none (some hi9) none,ty,ps,af,gd⟩ :: rest) N L c M R :=
 (kk (if cp=0 then a else a.map (·.add (0 * 1))) (by simpa using B8_part hr (p:=0) (q:=q.toNat) hm) (by simpa using sl_nil (p:=0) hn9)).do_ (fun κ A w F S=>ex_slice rfl (F.v hx) (l:=none) (h:=some (.int k q)) (m:=none) rfl (by simp[F.v hh]) rfl (by
  have ht:=ty_sl hs;have hE:P.elem t=e:=by simp[Program.elem,ht]
  rw[run_sliceAt_slice w t _ _ _ _ (by rw[hE];exact ht),run_slice_h w t a m cp (by rw[hE];exact ht) k q h0 h2,hE,ty_size he w]
  rfl)) hw hn
theorem vsb [Tbv P] {t3 z3:Nat} {o3:List Nat} {b3:Bool} {sx:ByteArray} (kk:∀ c' a' cp',Le c c'→Row c' a' (B8 sx.data.toList)→(a'=none→cp'=0)→sx.size≤cp'→LG P ops Q rest N ((n,.slice a' sx.size cp') :: L) c' M R) (hx:lko L x=some (.string sx):=by rfl) (hs:fty (Tbv.ts P) t=some ⟨t1,b1,z1,o1,.str⟩:=by rfl) (hd:fty (Tbv.ts P) u=some ⟨t2,b2,z2,o2,.sl e⟩:=by rfl) (he:fty (Tbv.ts P) e=some ⟨t3,b3,z3,o3,.int .u8⟩:=by rfl) (hw:wtd ops L gd=some true:=by rfl) (hn:Nat.blt n N=true:=by rfl) :
  LG P ops Q (⟨some n,.convert t u x,ty,ps,af,gd⟩ :: rest) N L c M R :=
 ⟨fun κ A w F S=>hz_w F hn (wtd_ok F hw) (ex_conv rfl (F.v hx) (run_bytes_of_string w t u e sx (ty_str hs) (ty_sl hd) (ty_int he))) fun A' F'=>by
  have hk:Kept No w (w.drew.alloc (.cells (bytesRow sx (grownCap w sx.size 0 e)) e ((bytesRow sx (grownCap w sx.size 0 e)).size,(bytesRow sx (grownCap w sx.size 0 e)).size+1))):=((Kept.refl No w).drew).alloc _;obtain ⟨l1,l2⟩:=(S.no hk).learn (G:=fun g=>w.heap.size≤g) (fun g hg ho=>by have:=S.lt ho;omega) (fun g hg=>.inr (Nat.le_trans S.k1.size hg)) (fun g hg=>.inl (Nat.le_trans S.le.size hg));refine (kk _ _ _ l1 ?_ (by intro h;cases h) ?_).h κ A' _ F' l2
  ·refine .inr ⟨w.heap.size,0,rfl,?_,fun j v hj=>?_⟩
   ·rw[learn_size]
    show w.heap.size < (w.heap.push _).size;rw[Array.size_push];omega
   ·refine (World.cell?_of_block (learn_yes (i:=w.heap.size) (.inr (Nat.le_refl w.heap.size)))).trans ?_
    have e1:(w.drew.alloc (.cells (bytesRow sx (grownCap w sx.size 0 e)) e ((bytesRow sx (grownCap w sx.size 0 e)).size,(bytesRow sx (grownCap w sx.size 0 e)).size+1))).heap[w.heap.size]?=some (.cells (bytesRow sx (grownCap w sx.size 0 e)) e ((bytesRow sx (grownCap w sx.size 0 e)).size,(bytesRow sx (grownCap w sx.size 0 e)).size+1)):=by
     show (w.heap.push _)[w.heap.size]?=_;simp
    have e2:(bytesRow sx (grownCap w sx.size 0 e))[0+j]?=some v:=by
     unfold bytesRow;rw[Nat.zero_add];have hj2:=(List.getElem?_eq_some_iff.1 hj).1;simp only[B8,List.length_map,Array.length_toList]at hj2;simp only[B8,List.getElem?_map]at hj;rw[Array.getElem?_append,if_pos (by simpa using hj2)];simpa using hj
    unfold World.cell?;simp only[e1];simpa using e2
  ·exact grownCap_ge w _ _ _⟩
end
section
variable {P:Program} {ops:Array Oper} {Q:Kn} {rest:List Oper} {N n i fuel t:Nat} {listed:List Bool} {L:List (Nat × Value)} {cH c:World} {H M:List Bl} {R:List Rwv} {v:Value} {ty:TypeId} {ps:String} {af:Array Edge} {op:Op} {gd:Option (Nat × Bool)} {x y:Operand} {xc yc:Code} {p:Prop} {o:Oper} {b:Bool} {e:Exit}
theorem bnT {p:Prop} [Decidable p] (h:¬ p):(!decide p)=true:=by rw[decide_eq_false h];rfl
theorem bnF {p:Prop} [Decidable p] (h:p):(!decide p)=false:=by rw[decide_eq_true h];rfl
theorem vcT (k:CG P Q xc N L c M R) (h0:lko L x=some v:=by rfl) (h1:v=.bool b:=by with_reducible rfl) (hp:b=true:=by first|assumption|(with_reducible refine decide_eq_true ?_;first|assumption|omega)|(with_reducible refine bnT ?_;first|assumption|omega)):CG P Q (.cond x xc yc) N L c M R:=vct k (by rw[h0,h1,hp])
theorem vcF (k:CG P Q yc N L c M R) (h0:lko L x=some v:=by rfl) (h1:v=.bool b:=by with_reducible rfl) (hp:b=false:=by first|assumption|(with_reducible refine decide_eq_false ?_;first|assumption|omega)|(with_reducible refine bnF ?_;first|assumption|omega)):CG P Q (.cond x xc yc) N L c M R:=vcf k (by rw[h0,h1,hp])
theorem Vfr.sh {a:Act} {u:Value} (F:Vfr a N L) (h:vlk L t=some v) (e:v=u):Vfr a N ((t,u) :: L):=F.cons (e▸F.g t v h)
def gsl (ops:Array Oper) (o:Oper):Option Nat:=match o.guard with
 | some (j,_)=>(ops[j]?).bind (·.dst)
 | none=>match o.op with
  | .pick (.tmp t) _ _=>some t
  | _=>none
theorem vg {q:Prop} (k1:p→LG P ops Q (o :: rest) N ((t,.bool true) :: L) c M R) (k2:q→LG P ops Q (o :: rest) N ((t,.bool false) :: L) c M R) (ht:gsl ops o=some t:=by rfl) (h0:vlk L t=some v:=by rfl) (h1:v=.bool b:=by (fail_if_success with_reducible exact vtt);(fail_if_success with_reducible exact vff);with_reducible rfl) (h2:(b=true→p)∧(b=false→q):=by with_reducible (first|exact bv1|exact bv2|exact bv4|exact bv3)):LG P ops Q (o :: rest) N L c M R :=
 ⟨fun κ a w F S=>by
  cases hb:b with
  | true=>exact (k1 (h2.1 hb)).h κ a w (F.sh h0 (by rw[h1,hb])) S
  | false=>exact (k2 (h2.2 hb)).h κ a w (F.sh h0 (by rw[h1,hb])) S⟩
theorem vgT (k:LG P ops Q (o :: rest) N ((t,.bool true) :: L) c M R) (ht:gsl ops o=some t:=by rfl) (h0:vlk L t=some v:=by rfl) (h1:v=.bool b:=by (fail_if_success with_reducible exact vtt);with_reducible rfl) (hp:b=true:=by first|assumption|(with_reducible refine decide_eq_true ?_;first|assumption|omega)|(with_reducible refine bnT ?_;first|assumption|omega)):LG P ops Q (o :: rest) N L c M R:=⟨fun κ a w F S=>k.h κ a w (F.sh h0 (by rw[h1,hp])) S⟩
theorem vgF (k:LG P ops Q (o :: rest) N ((t,.bool false) :: L) c M R) (ht:gsl ops o=some t:=by rfl) (h0:vlk L t=some v:=by rfl) (h1:v=.bool b:=by (fail_if_success with_reducible exact vff);with_reducible rfl) (hp:b=false:=by first|assumption|(with_reducible refine decide_eq_false ?_;first|assumption|omega)|(with_reducible refine bnF ?_;first|assumption|omega)):LG P ops Q (o :: rest) N L c M R:=⟨fun κ a w F S=>k.h κ a w (F.sh h0 (by rw[h1,hp])) S⟩
def gslh (ops:Array Oper) (i:Nat):Option Nat:=(ops[i]?).bind (gsl ops)
theorem vqg {q:Prop} (k1:p→HG P ops Q cH H fuel listed N ((t,.bool true) :: L) c M R) (k2:q→HG P ops Q cH H fuel listed N ((t,.bool false) :: L) c M R) (hx:nxl ops listed=some i:=by rfl) (ht:gslh ops i=some t:=by rfl) (h0:vlk L t=some v:=by rfl) (h1:v=.bool b:=by (fail_if_success with_reducible exact vtt);(fail_if_success with_reducible exact vff);with_reducible rfl) (h2:(b=true→p)∧(b=false→q):=by with_reducible (first|exact bv1|exact bv2|exact bv4|exact bv3)):HG P ops Q cH H fuel listed N L c M R :=
 ⟨fun hc hH κ a w F S=>by
  cases hb:b with
  | true=>exact (k1 (h2.1 hb)).h hc hH κ a w (F.sh h0 (by rw[h1,hb])) S
  | false=>exact (k2 (h2.2 hb)).h hc hH κ a w (F.sh h0 (by rw[h1,hb])) S⟩
theorem vkz {f:Nat} {l:List Operand} {vs:List Value} {ats:Array TypeId} (k:LG P ops Q rest N ((n,v) :: L) c M R) (hx:lkos L l=some vs:=by rfl) (hc:Ck P f vs c v:=by assumption) (hw:wtd ops L gd=some true:=by rfl) (hn:Nat.blt n N=true:=by rfl) :
  LG P ops Q (⟨some n,.call { callee:=.value (.func f),args:=l.toArray,argTypes:=ats },ty,ps,af,gd⟩ :: rest) N L c M R:=vkk hc k hx hw hn
theorem vqkz {f:Nat} {l:List Operand} {vs:List Value} {ats:Array TypeId} {listed':List Bool} (k:HG P ops Q cH H fuel listed' N ((n,v) :: L) c M R) (hx:al1 ops listed=some i:=by rfl) (hs9:setB listed i=some listed':=by rfl) (hi:ops[i]?=some ⟨some n,.call { callee:=.value (.func f),args:=l.toArray,argTypes:=ats },ty,ps,af,gd⟩:=by rfl) (hv:lkos L l=some vs:=by rfl) (hc:Ck P f vs c v:=by assumption) (hr:Region.ready .any ops listed.toArray=[i]:=by kernel_rfl) (hw:wtd ops L gd=some true:=by rfl) (hn:Nat.blt n N=true:=by rfl):HG P ops Q cH H (fuel+1) listed N L c M R:=vqkk hc k hx hs9 hi hv hr hw hn
end
structure Nx (p:Prop):Prop where
 h:p
theorem go {G G':Prop} (k:G') (h:Nx G'→G:=by
  intro k9
  repeat1' (first
   | refine vz ?_
   | refine vf ?_
   | refine vl ?_
   | refine vn ?_
   | refine vla ?_
   | refine vno ?_
   | refine vs ?_
   | refine vrg ?_
   | refine vct ?_
   | refine vcf ?_
   | refine vk ?_
   | refine ves ?_
   | refine vb ?_
   | refine vx ?_
   | refine vre ?_
   | refine ver ?_
   | refine vex ?_
   | refine vebr ?_
   | refine vebx ?_
   | refine veby ?_
   | refine veb ?_
   | refine vjr ?_
   | refine vjx ?_
   | refine vkz ?_
   | refine vbe ?_
   | refine vbn ?_
   | refine vfp ?_
   | refine vno0 ?_
   | refine vln ?_
   | refine vls ?_
   | refine vad ?_
   | refine vsu ?_
   | refine vt0 ?_
   | refine vt1 ?_
   | refine vt2 ?_
   | refine vlp ?_
   | refine vbu ?_
   | refine vcT ?_
   | refine vcF ?_
   | refine vgT ?_
   | refine vgF ?_
   | refine venr ?_
   | refine vqz ?_
   | refine vqf ?_
   | refine vql ?_
   | refine vqla ?_
   | refine vqln ?_
   | refine vqls ?_
   | refine vqad ?_
   | refine vqno ?_
   | refine vqt0 ?_
   | refine vqt1 ?_
   | refine vqt2 ?_
   | refine vq ?_
   | refine vqq ?_
   | refine vqkz ?_
   | refine vix ?_
   | refine vqix ?_
   | refine vlr ?_
   | refine vlr1 ?_
   | refine vlrf ?_
   | refine vqn ?_)
  exact k9.h):G:=h ⟨k⟩
set_option maxRecDepth 100000
def tyT:List Ty:=[⟨40,false,1,[],.no⟩,
 ⟨22,false,1,[],.no⟩,
 ⟨109,false,1,[],.no⟩,
 ⟨46,true,22,[],.ar 2 45⟩,
 ⟨190,false,1,[],.sl 35⟩,
 ⟨55,false,1,[],.sl 63⟩,
 ⟨27,false,1,[],.sl 53⟩,
 ⟨150,false,1,[],.sl 32⟩,
 ⟨59,false,1,[],.sl 105⟩,
 ⟨58,false,1,[],.sl 95⟩,
 ⟨140,false,1,[],.sl 143⟩,
 ⟨192,false,1,[],.sl 9⟩,
 ⟨29,false,1,[],.sl 5⟩,
 ⟨72,true,2,[0,1],.no⟩,
 ⟨35,false,1,[],.sl 72⟩,
 ⟨23,false,1,[],.int .i64⟩,
 ⟨4,false,1,[],.bo⟩,
 ⟨86,true,4,[0,1,2,3],.no⟩,
 ⟨135,true,3,[0,1,2],.no⟩,
 ⟨74,true,5,[0,1,2,3,4],.no⟩,
 ⟨63,true,26,[0,25],.no⟩,
 ⟨53,true,4,[0,1,2,3],.no⟩,
 ⟨48,true,30,[0,1,2,3,8],.no⟩,
 ⟨39,true,5,[0,1,2,3,4],.no⟩,
 ⟨45,true,11,[0,1,9,10],.no⟩,
 ⟨69,true,3,[0,1,2],.no⟩,
 ⟨32,false,1,[],.sl 69⟩,
 ⟨3,false,1,[],.int .i64⟩,
 ⟨43,true,8,[0,1,2,3,4,5,6,7],.no⟩,
 ⟨105,true,2,[0,1],.no⟩,
 ⟨61,true,25,[0,1,2,3,4,5,6,7,8,9,10,11,12,13,14,15,16,17,18,19,20,21,22,23,24],.no⟩,
 ⟨95,true,4,[0,1,2,3],.no⟩,
 ⟨143,true,2,[0,1],.no⟩,
 ⟨9,false,1,[],.str⟩,
 ⟨156,false,1,[],.int .u64⟩,
 ⟨41,false,1,[],.int .u16⟩,
 ⟨93,false,1,[],.int .u32⟩,
 ⟨5,false,1,[],.int .u8⟩,
 ⟨130,true,2,[0,1],.no⟩]
def tyZ:List (Nat × Value):=[(58,.slice none 0 0),
 (29,.slice none 0 0),
 (72,(.agg #[.int .u16 0,.string ⟨#[]⟩])),
 (4,.bool false),
 (86,(.agg #[.int .i64 0,.int .u8 0,.int .i64 0,.int .i64 0])),
 (135,(.agg #[.int .i64 0,.pointer none,.bool false])),
 (74,(.agg #[.int .i64 0,.int .i64 0,.bool false,.slice none 0 0,.int .i64 0])),
 (63,(.agg #[.int .i64 0,.bool false,.bool false,.int .u8 0,.int .u16 0,.bool false,.int .u16 0,.string ⟨#[]⟩,.bool false,.bool false,.bool false,.int .u8 0,.bool false,.slice none 0 0,.string ⟨#[]⟩,.string ⟨#[]⟩,.string ⟨#[]⟩,.string ⟨#[]⟩,.bool false,.int .u8 0,.string ⟨#[]⟩,.string ⟨#[]⟩,.slice none 0 0,.slice none 0 0,.slice none 0 0,.slice none 0 0])),
 (53,(.agg #[.int .i64 0,.int .i64 0,.int .u8 0,.string ⟨#[]⟩])),
 (48,(.agg #[.int .i64 0,.int .i64 0,.int .i64 0,.bool false,.bool false,.bool false,.bool false,.string ⟨#[]⟩,.pointer none,.int .u16 0,.int .u16 0,.int .i64 0,.int .u8 0,.bool false,.bool false,.bool false,.bool false,.slice none 0 0,.slice none 0 0,.pointer none,.int .u16 0,.int .u16 0,.int .i64 0,.int .u8 0,.bool false,.bool false,.bool false,.bool false,.slice none 0 0,.slice none 0 0])),
 (39,(.agg #[.bool false,.bool false,.bool false,.bool false,.string ⟨#[]⟩])),
 (45,(.agg #[.pointer none,.int .u16 0,.int .u16 0,.int .i64 0,.int .u8 0,.bool false,.bool false,.bool false,.bool false,.slice none 0 0,.slice none 0 0])),
 (69,(.agg #[.int .u16 0,.int .i64 0,.int .i64 0])),
 (43,(.agg #[.int .u16 0,.int .u16 0,.int .i64 0,.int .u8 0,.bool false,.bool false,.bool false,.bool false])),
 (105,(.agg #[.string ⟨#[]⟩,.int .u8 0])),
 (61,(.agg #[.int .i64 0,.bool false,.bool false,.int .u8 0,.int .u16 0,.bool false,.int .u16 0,.string ⟨#[]⟩,.bool false,.bool false,.bool false,.int .u8 0,.bool false,.slice none 0 0,.string ⟨#[]⟩,.string ⟨#[]⟩,.string ⟨#[]⟩,.string ⟨#[]⟩,.bool false,.int .u8 0,.string ⟨#[]⟩,.string ⟨#[]⟩,.slice none 0 0,.slice none 0 0,.slice none 0 0])),
 (95,(.agg #[.int .u8 0,.int .u32 0,.string ⟨#[]⟩,.string ⟨#[]⟩])),
 (143,(.agg #[.int .u8 0,.int .u8 0])),
 (130,(.agg #[.slice none 0 0,.int .i64 0]))]
instance tbI:Tbv Tryz.prog:=⟨tyT,tyZ,by kernel_rfl,by repeat' (first|exact trivial|refine ⟨by kernel_rfl,?_⟩)⟩
end Go.Proofs.YtofjhopecfmbcaaGreatDoor
