import Derived.Test.YtkochkhfbhjicaaGreatDoorChecked
import Derived.Test.YtkochkhfbhjicaaGreatDoorBase
import Derived.Laws.IdiomStrings
import Derived.Lib.BufferRead
import Derived.Deep.QuietTactic
import Derived.BigQuiet
namespace Go.Proofs.YtkochkhfbhjicaaGreatDoor
set_option maxHeartbeats 400000
open Go.RowKit
set_option linter.unusedVariables false
set_option linter.unusedSimpArgs false
set_option maxRecDepth 100000
theorem qe:(Tryz.prog.info? 5).map (λi=>(i.zero,i.size,i.bytes))=some (some (.int .u8 0),1,1):=by kernel_rfl
def Lays (w:World) (l:List UInt8) (e:Ending) (w':World):Prop :=
 ∃ g cap,e=.returned (.slice (some ⟨g,0,none⟩) l.length cap)∧w.heap.size≤g∧w'.ownsRow w.heap.size 5 1 (.slice (some ⟨g,0,none⟩) l.length cap) l.length (B8 l)∧Kept No w w'
theorem jGx {w w':World} {v:Value} {l:List UInt8} {n:Nat} {xs:List Value} (h:w'.ownsRow w.heap.size 5 1 v n xs) (hn:n=l.length) (hx:xs=B8 l) (h0:v≠.slice none 0 0) (hk:Kept No w w'):Lays w l (.returned v) w':=by
 subst hn hx;rcases h.2 with ⟨hv,_⟩|⟨g,cap,cur,hv,hg,_⟩
 ·exact absurd hv h0
 ·subst hv;exact ⟨g,cap,rfl,hg,h,hk⟩
theorem j2x {w w':World} {v:Value} {l:List UInt8} {n:Nat} {xs:List Value} (h:w'.ownsRow w.heap.size 5 1 v n xs) (hn:n=l.length) (hx:xs=B8 l) (h0:0<l.length) (hk:Kept No w w'):Lays w l (.returned v) w':=by
 subst hn hx;obtain ⟨g,cap,hv,hg,_⟩:=h.form h0;subst hv;exact ⟨g,cap,rfl,hg,h,hk⟩
theorem ze (a:Option Addr) (c:Nat) (l:List UInt8) (room:Int) (w:World) (h0:0≤room) (hr:Row w a (B8 l)) (hn:a=none→l.length=0∧c=0) (hl:l.length+room≤140737488355328) :
  Calls Tryz.prog 62 #[.slice a l.length c,.int .i64 room] w λe w' =>
   ∃ g,e=.returned (.slice (some ⟨g,0,none⟩) l.length (l.length+room.toNat))∧w.heap.size≤g∧w'.ownsRow w.heap.size 5 1 (.slice (some ⟨g,0,none⟩) l.length (l.length+room.toNat)) l.length (B8 l)∧Kept No w w':=by
 obtain ⟨i0,hi,hz0,hz1,hz2⟩:=info_parts qe;have hm:maxLen=9223372036854775807:=rfl;obtain ⟨room,rfl⟩:=Int.eq_ofNat_of_zero_le h0;rw[Int.toNat_natCast]
 go_enter Tryz.func62,Tryz.ntmps62
 go_wp2_with (first
  | (at_make;refine wpList_make_own _ rfl _ _ _ rfl w.heap.size 5 i0 _ 1 Tryz.underlying25 hi hz0 hz1 .i64 .i64 _ (l.length+room) rfl rfl ?c1 ?c2 ?c3 (Nat.le_refl _) ?_;rotate_right;intro w1 hown1 hg1)
  | (at_builtin;refine wpList_append_fits_any _ rfl _ _ _ rfl w.heap.size 5 i0 1 Tryz.underlying25 hi hz1 _ 0 _ [] rfl hown1 a l.length c (B8 l) rfl ?d1 hn ?d2 (vW l) ?d3 ?_;rotate_right;intro w2 hown2 hg2))
 case c1=>omega
 case c2=>rw[hz2];omega
 case c3=>omega
 case d1=>simp
 case d2=>exact (hr.keptNo ((Kept.refl No w).grown hg1 (by simp))).at_add
 case d3=>omega
 go_ret
 exact ⟨_,by simp,Nat.le_refl _,by simpa using hown2,((Kept.refl No w).grown hg1 (by simp)).grown hg2 (by simp)⟩
theorem j59 (a:Option Addr) (c:Nat) (l:List UInt8) (n:Int) (w:World) (h0:0≤n) (h1:n≤255) (hr:Row w a (B8 l)) (hn:a=none→l.length=0∧c=0) (hl:l.length≤140737000000000) :
  Calls Tryz.prog 34 #[.slice a l.length c,.int .u8 n] w (Lays w (l++[jN n])):=by
 obtain ⟨i0,hi,hz0,hz1,hz2⟩:=info_parts qe
 go_enter Tryz.func34,Tryz.ntmps34
 go_wp2_with (first
  | (go_at_call 62;refine (ze a c l 1 _ (by omega) hr hn (by omega)).mono ?_;rintro e w1 ⟨g,rfl,hg,hown1,hk1⟩)
  | (at_builtin;refine wpList_append_fits_any _ rfl _ _ _ rfl w.heap.size 5 i0 1 Tryz.underlying25 hi hz1 _ _ _ _ rfl (hown1.alloc _) (some ⟨w1.heap.size,0,none⟩) 1 1 (B8 [jN n]) rfl ?d1 (by simp) ?d3 (vW _) ?d4 ?_;rotate_right;intro w2 hown2 hg2))
 case d1=>simp
 case d3=>exact j6a (by repeat (first|rfl|rw[j1n (by omega) (by omega)]))
 case d4=>simp
 go_ret
 exact j2x hown2 (by simp) (by simp[jt]) (by simp) ((hk1.alloc _).grown hg2 (by rintro k ⟨⟩;exact .inl hg))
theorem jDf (a:Option Addr) (c:Nat) (l:List UInt8) (n:Int) (w:World) (h0:0≤n) (h1:n≤65535) (hr:Row w a (B8 l)) (hn:a=none→l.length=0∧c=0) (hl:l.length≤140737000000000) :
  Calls Tryz.prog 67 #[.slice a l.length c,.int .u16 n] w (Lays w (l++[jN (n / 256),jN (n % 256)])):=by
 obtain ⟨i0,hi,hz0,hz1,hz2⟩:=info_parts qe
 go_enter Tryz.func67,Tryz.ntmps67
 go_wp2_with (first
  | (go_at_call 62;refine (ze a c l 2 _ (by omega) hr hn (by omega)).mono ?_;rintro e w1 ⟨g,rfl,hg,hown1,hk1⟩)
  | (at_builtin;refine wpList_append_fits_any _ rfl _ _ _ rfl w.heap.size 5 i0 1 Tryz.underlying25 hi hz1 _ _ _ _ rfl (hown1.alloc _) (some ⟨w1.heap.size,0,none⟩) 2 2 (B8 [jN (n / 256),jN (n % 256)]) rfl ?d1 (by simp) ?d3 (vW _) ?d4 ?_;rotate_right;intro w2 hown2 hg2))
 case d1=>simp
 case d3=>exact j6a (by repeat (first|rfl|rw[j1n (by omega) (by omega)]))
 case d4=>simp
 go_ret
 exact j2x hown2 (by simp) (by simp[jt]) (by simp) ((hk1.alloc _).grown hg2 (by rintro k ⟨⟩;exact .inl hg))
theorem jGh (a:Option Addr) (c:Nat) (l:List UInt8) (n:Int) (w:World) (h0:0≤n) (h1:n≤4294967295) (hr:Row w a (B8 l)) (hn:a=none→l.length=0∧c=0) (hl:l.length≤140737000000000) :
  Calls Tryz.prog 104 #[.slice a l.length c,.int .u32 n] w (Lays w (l++[jN (n / 16777216),jN (n / 65536 % 256),jN (n / 256 % 256),jN (n % 256)])):=by
 obtain ⟨i0,hi,hz0,hz1,hz2⟩:=info_parts qe
 go_enter Tryz.func104,Tryz.ntmps104
 go_wp2_with (first
  | (go_at_call 62;refine (ze a c l 4 _ (by omega) hr hn (by omega)).mono ?_;rintro e w1 ⟨g,rfl,hg,hown1,hk1⟩)
  | (at_builtin;refine wpList_append_fits_any _ rfl _ _ _ rfl w.heap.size 5 i0 1 Tryz.underlying25 hi hz1 _ _ _ _ rfl (hown1.alloc _) (some ⟨w1.heap.size,0,none⟩) 4 4 (B8 [jN (n / 16777216),jN (n / 65536 % 256),jN (n / 256 % 256),jN (n % 256)]) rfl ?d1 (by simp) ?d3 (vW _) ?d4 ?_;rotate_right;intro w2 hown2 hg2))
 case d1=>simp
 case d3=>exact j6a (by repeat (first|rfl|rw[j1n (by omega) (by omega)]))
 case d4=>simp
 go_ret
 exact j2x hown2 (by simp) (by simp[jt]) (by simp) ((hk1.alloc _).grown hg2 (by rintro k ⟨⟩;exact .inl hg))
theorem j1m (n:Int) (w:World) (h0:0≤n) (h1:n<4294967296) :
  Calls Tryz.prog 32 #[.int .u32 n] w λe w' =>
   e=.returned (.int .i64 (if n<128 then 1 else if n<16384 then 2 else if n<2097152 then 3 else if n<268435456 then 4 else 0))∧w=w':=by
 rcases (show n<128∨(128≤n∧n<16384)∨(16384≤n∧n<2097152)∨(2097152≤n∧n<268435456)∨268435456≤n from by omega) with h|⟨h,h'⟩|⟨h,h'⟩|⟨h,h'⟩|h
 all_goals
  go_enter Tryz.func32,Tryz.ntmps32
  go_wp2
  refine wp_loop_rounds 5 ?_
  repeat (rw[rounds_succ];go_wp2)
  go_ret
  refine ⟨?_,rfl⟩
  congr 2
  repeat (first|rw[if_pos (by omega)]|rw[if_neg (by omega)])
theorem jCi (a:Option Addr) (c:Nat) (l:List UInt8) (s:ByteArray) (w:World) (h1:s.size≤65535) (hr:Row w a (B8 l)) (hn:a=none→l.length=0∧c=0) (hl:l.length≤140737000000000) :
  Calls Tryz.prog 86 #[.slice a l.length c,.string s] w (Lays w (l++jN (s.size / 256) :: jN (s.size % 256) :: s.data.toList)):=by
 obtain ⟨i0,hi,hz0,hz1,hz2⟩:=info_parts qe;have hm:maxLen=9223372036854775807:=rfl
 go_enter Tryz.func86,Tryz.ntmps86
 go_wp2_with (first
  | (go_at_call 62;refine (ze a c l (2+s.size) _ (by omega) hr hn (by omega)).mono ?_;rintro e w1 ⟨g,rfl,hg,hown1,hk1⟩)
  | (at_builtin;refine wpList_append_fits_any _ rfl (.tmp 17) (.tmp 23) _ rfl w.heap.size 5 i0 1 Tryz.underlying25 hi hz1 _ _ _ _ rfl (hown1.alloc _) (some ⟨w1.heap.size,0,none⟩) 2 2 (B8 [jN (s.size / 256),jN (s.size % 256)]) rfl ?d1 (by simp) ?d3 (vW _) ?d4 ?_;rotate_right;intro w2 hown2 hg2)
  | (at_builtin;refine Lib.wpList_append_own_string _ rfl _ _ _ _ rfl w.heap.size 5 i0 Tryz.underlying25 Tryz.underlying9 hi hz0 hz1 hz2 _ _ _ rfl hown2 s rfl ?f1 ?f2 ?f3 ?_;rotate_right;intro v3 w3 hown3 hg3 _))
 case d1=>simp
 case d3=>exact j6a (by repeat (first|rfl|rw[j1n (by omega) (by omega)]))
 case d4=>omega
 case f1=>omega
 case f2=>omega
 case f3=>exact Nat.le_trans hk1.size (Nat.le_trans (by simp) hg2.size)
 go_ret
 have hk2:=(hk1.alloc (.cells #[.int .u8 (s.size / 256),.int .u8 (s.size % 256)] 5)).grown hg2 (by rintro k ⟨⟩;exact .inl hg);exact j2x hown3 (by simp;omega) (by simp[jt,B8,Lib.strCells]) (by simp;omega) (hk2.grown hg3 (vH hown2))
def j3a (n:Nat):List UInt8:=if n<128 then [jN n] else jN ((n:Int) % 128+128) :: j3a (n / 128)
termination_by n
decreasing_by omega
theorem zY {n:Nat} (h:n<128):j3a n=[jN n]:=by rw[j3a,if_pos h]
theorem zX {n:Nat} (h:¬ n<128):j3a n=jN ((n:Int) % 128+128) :: j3a (n / 128):=by rw[j3a,if_neg h]
set_option maxRecDepth 100000 in
theorem jDh (a:Option Addr) (c:Nat) (l:List UInt8) (n:Nat) (w:World) (h1:n≤268435455) (hr:Row w a (B8 l)) (hn:a=none→l.length=0∧c=0) (hl:l.length≤140737000000000) :
  Calls Tryz.prog 36 #[.slice a l.length c,.int .u32 n] w (Lays w (l++j3a n)):=by
 obtain ⟨i0,hi,hz0,hz1,hz2⟩:=info_parts qe;have hm:maxLen=9223372036854775807:=rfl;have hv:=j1m (n:Int) w (by omega) (by omega)
 obtain ⟨z,hz,hz'⟩:∃ z:Nat,z≤4∧(if (n:Int)<128 then 1 else if (n:Int)<16384 then 2 else if (n:Int)<2097152 then 3 else if (n:Int)<268435456 then 4 else 0)=(z:Int):=by
  repeat' split
  ·exact ⟨1,by omega,rfl⟩
  ·exact ⟨2,by omega,rfl⟩
  ·exact ⟨3,by omega,rfl⟩
  ·exact ⟨4,by omega,rfl⟩
  ·exact ⟨0,by omega,rfl⟩
 rw[hz']at hv;have H:=Lib.hid hv;clear hv hz'
 go_enter Tryz.func36,Tryz.ntmps36
 go_wp2_with (first
  | (go_at_call 32;refine H.out.mono ?_;rintro e w1 ⟨rfl,rfl⟩)
  | (go_at_call 62;refine (ze a c l z _ (by omega) hr hn (by omega)).mono ?_;rintro e w1 ⟨g,rfl,hg,hown1,hk1⟩))
 clear H
 go_loopw [1,5] (λm v wr=>∃ (x:Nat) (p:List UInt8),m=.int .u32 x∧x≤n∧p++j3a x=j3a n∧wr.ownsRow w.heap.size 5 1 v (l++p).length (B8 (l++p))∧Kept No w wr∧p.length+x≤n) (λm _ _=>(intOf m).toNat)
 case atStart=>exact ⟨n,[],rfl,by omega,rfl,by simpa using hown1,hk1,by simp⟩
 case round =>
  obtain ⟨x,p,rfl,hx,hp,hown,hk,hpl⟩:=hrel;have HP:=Lib.hid hp;clear hp hown1 hk1 hg;have hsz:=hk.size
  by_cases hlt:x<128
  ·go_wp2_with (at_builtin;refine wpList_append_own _ rfl _ _ _ rfl w.heap.size 5 i0 _ 1 1 Tryz.underlying25 hi hz0 hz1 hz2 rfl (by decide) _ _ _ rfl (hown.alloc _) ⟨wr.heap.size,0,none⟩ 1 1 (B8 [jN x]) rfl rfl ?c1 (vW _) ?c2 ?c3 ?c4 ?_;rotate_right;intro v2 w2 hown2 hg2 _)
   case c1=>exact jBp (by rw[j1n (by omega) (by omega)];rfl)
   case c2=>simp;omega
   case c3=>simp;omega
   case c4=>simp;omega
   go_ret
   refine j2x hown2 (by rw[← HP.out,zY hlt];simp;omega) (by rw[← HP.out,zY hlt];simp[jt,B8]) (by rw[← HP.out,zY hlt];simp;omega) ((hk.alloc _).grown hg2 (vH hown))
  ·go_wp2_with (at_builtin;refine wpList_append_own _ rfl _ _ _ rfl w.heap.size 5 i0 _ 1 1 Tryz.underlying25 hi hz0 hz1 hz2 rfl (by decide) _ _ _ rfl (hown.alloc _) ⟨wr.heap.size,0,none⟩ 1 1 (B8 [jN ((x:Int) % 128+128)]) rfl rfl ?c1b (vW _) ?c2b ?c3b ?c4b ?_;rotate_right;intro v2 w2 hown2 hg2 _)
   case c1b=>exact jBp (by rw[j1n (by omega) (by omega)];rfl)
   case c2b=>simp;omega
   case c3b=>simp;omega
   case c4b=>simp;omega
   go_roundw
   case rel=>exact ⟨x / 128,p++[jN ((x:Int) % 128+128)],by go_num,by omega,by rw[← HP.out,zX hlt];simp,by simpa [jt,List.append_assoc,Nat.add_assoc] using hown2,(hk.alloc _).grown hg2 (vH hown),by simp;omega⟩
   case measure=>simp[intOf];omega
theorem j86 (a:Option Addr) (c:Nat) (l:List UInt8) (n:Nat) (w:World) (h1:268435455<n) (h2:n<4294967296) (hr:Row w a (B8 l)) (hn:a=none→l.length=0∧c=0) (hl:l.length≤140737000000000) :
  Calls Tryz.prog 36 #[.slice a l.length c,.int .u32 n] w (Lays w l):=by
 have hv:=j1m (n:Int) w (by omega) (by omega)
 have e:(if (n:Int)<128 then 1 else if (n:Int)<16384 then 2 else if (n:Int)<2097152 then 3 else if (n:Int)<268435456 then 4 else 0)=(0:Int):=by
  repeat rw[if_neg (by omega)]
 rw[e]at hv;have H:=Lib.hid hv;clear hv e
 go_enter Tryz.func36,Tryz.ntmps36
 go_wp2_with (first
  | (go_at_call 32;refine H.out.mono ?_;rintro e w1 ⟨rfl,rfl⟩)
  | (go_at_call 62;refine (ze a c l 0 _ (by omega) hr hn (by omega)).mono ?_;rintro e w1 ⟨g,rfl,hg,hown1,hk1⟩))
 go_ret
 exact ⟨g,_,rfl,hg,hown1,hk1⟩
theorem jD7 {P:Program} {w:World} (src dst e:TypeId) (hs:P.underlying src=some (.slice e)) (he:P.underlying e=some (.int .u8)) (hd:P.underlying dst=some .string)
  {a:Option Addr} {l:List UInt8} (h:Row w a (B8 l)) (cap:Nat) (hn:a=none→cap=0):(convert src dst (.slice a l.length cap)).run P w=.ok (.string ⟨l.toArray⟩) w:=by
 cases a with
 | none =>
  obtain rfl:=hn rfl;rcases h with h|⟨b,off,h,_⟩
  ·obtain rfl:l=[]:=by cases l<;>simp_all [B8]
   exact Lib.run_convert_nil_bytes w src dst e 0 hs he hd
  ·cases h
 | some ad=>exact run_convert_bytes_back w src dst e ad cap l hs he hd λj hj=>h.at_add ad rfl j _ (jL5 l j hj)
def Typ (w:World) (a:Option Addr) (l:List UInt8):Prop:=∀ b off,a=some ⟨b,off,none⟩→l≠[]→∃ cs fz,w.heap[b]?=some (.cells cs 5 fz)
theorem Typ.nil (w:World) (a:Option Addr):Typ w a []:=λ_ _ _ h=>absurd rfl h
theorem Typ.kept {w w':World} {S:Nat→Prop} {a:Option Addr} {l:List UInt8} (h:Typ w a l) (hk:Kept S w w') (hS:∀ b off,a=some ⟨b,off,none⟩→l≠[]→¬ S b):Typ w' a l:=by
 intro b off ha hl;obtain ⟨cs,fz,hb⟩:=h b off ha hl;exact ⟨cs,fz,(hk.block b (Array.getElem?_eq_some_iff.1 hb).1 (hS b off ha hl)).trans hb⟩
def NoByte (w:World) (b:Nat):Prop:=∀ off n,w.cell? ⟨b,off,none⟩≠some (.int .u8 n)
theorem NoByte.two {w:World} {b:Nat} {t:TypeId} {x y:Value} (hb:Blk w b t #[x,y]) (hx:∀ n,x≠.int .u8 n) (hy:∀ n,y≠.int .u8 n):NoByte w b:=by
 intro off n h;rw[hb.cell]at h
 match off,h with
 | 0,h=>exact hx _ (by simpa using h)
 | 1,h=>exact hy _ (by simpa using h)
 | k+2,h=>simp at h
theorem NoByte.three {w:World} {b:Nat} {t:TypeId} {x y z:Value} (hb:Blk w b t #[x,y,z]) (hx:∀ n,x≠.int .u8 n) (hy:∀ n,y≠.int .u8 n) (hz:∀ n,z≠.int .u8 n):NoByte w b:=by
 intro off n h;rw[hb.cell]at h
 match off,h with
 | 0,h=>exact hx _ (by simpa using h)
 | 1,h=>exact hy _ (by simpa using h)
 | 2,h=>exact hz _ (by simpa using h)
 | k+3,h=>simp at h
def qb (n:Int) (l:List UInt8) (err:Int):List UInt8:=if err=0∧0≤n∧n≤l.length then l.take n.toNat else []
def qt (n:Int) (l:List UInt8) (err:Int):List UInt8:=if err=0 then (if 0≤n∧n≤l.length then l.drop n.toNat else []) else l
def qq (n:Int) (l:List UInt8) (err:Int):Int:=if err=0 then (if 0≤n∧n≤l.length then 0 else 2) else err
def num (l:List UInt8):Nat:=l.foldl (λn c=>n*256+c.toNat) 0
def zC (l:List UInt8) (err:Int):List UInt8:=qb (num (qb 2 l err)) (qt 2 l err) (qq 2 l err)
def j55 (l:List UInt8) (err:Int):List UInt8:=qt (num (qb 2 l err)) (qt 2 l err) (qq 2 l err)
def j6z (l:List UInt8) (err:Int):Int:=qq (num (qb 2 l err)) (qt 2 l err) (qq 2 l err)
def rv:Nat→Nat→Nat→List UInt8→Int→Nat × List UInt8 × Int
 | 0,_,_,_,_=>(0,[],3)
 | f+1,i,n,l,err =>
  if qq 1 l err≠0 then (0,qt 1 l err,qq 1 l err)
  else if 128≤num (qb 1 l err) then rv f (i+1) (n+num (qb 1 l err) % 128*128 ^ i) (qt 1 l err) (qq 1 l err)
  else if num (qb 1 l err)=0∧0<i then (0,[],3)
  else (n+num (qb 1 l err) % 128*128 ^ i,qt 1 l err,qq 1 l err)
theorem j9a {f i n:Nat} {l:List UInt8} {err:Int} (h:qq 1 l err=0) (h1:128≤num (qb 1 l err)):rv (f+1) i n l err=rv f (i+1) (n+num (qb 1 l err) % 128*128 ^ i) (qt 1 l err) (qq 1 l err):=by
 rw[rv,if_neg (by simpa using h),if_pos h1]
theorem jDb {f i n:Nat} {l:List UInt8} {err:Int} (h:qq 1 l err=0) (h1:num (qb 1 l err)=0) (hi:0<i):rv (f+1) i n l err=(0,[],3):=by
 rw[rv,if_neg (by simpa using h),if_neg (by omega),if_pos ⟨h1,hi⟩]
theorem j99 {f i n:Nat} {l:List UInt8} {err:Int} (h:qq 1 l err=0) (h1:num (qb 1 l err)<128) (hi:¬ (num (qb 1 l err)=0∧0<i)):rv (f+1) i n l err=(n+num (qb 1 l err) % 128*128 ^ i,qt 1 l err,qq 1 l err):=by
 rw[rv,if_neg (by simpa using h),if_neg (by omega),if_neg hi]
theorem jEr (B:ByteArray):B.data.toList.length=B.size:=by rw[Array.length_toList];rfl
theorem vY (c:UInt8) (t:List UInt8):qb 1 (c :: t) 0=[c]∧qt 1 (c :: t) 0=t∧qq 1 (c :: t) 0=0:=by
 have h:(1:Int)≤((c :: t).length:Nat):=by simp;omega
 refine ⟨?_,?_,?_⟩
 ·unfold qb;rw[if_pos ⟨rfl,by omega,h⟩];rfl
 ·unfold qt;rw[if_pos rfl,if_pos ⟨by omega,h⟩];rfl
 ·unfold qq;rw[if_pos rfl,if_pos ⟨by omega,h⟩]
theorem j0v (c:UInt8):num [c]=c.toNat:=by simp[num]
theorem j98 (f i n:Nat) (c:UInt8) (t:List UInt8) (h:128≤c.toNat):rv (f+1) i n (c :: t) 0=rv f (i+1) (n+c.toNat % 128*128 ^ i) t 0:=by
 rw[j9a (vY c t).2.2 (by rw[(vY c t).1,j0v];exact h),(vY c t).1,j0v,(vY c t).2.1,(vY c t).2.2]
theorem j97 (f i n:Nat) (c:UInt8) (t:List UInt8) (h:c.toNat<128) (hi:¬ (c.toNat=0∧0<i)):rv (f+1) i n (c :: t) 0=(n+c.toNat % 128*128 ^ i,t,0):=by
 rw[j99 (vY c t).2.2 (by rw[(vY c t).1,j0v];exact h) (by rw[(vY c t).1,j0v];exact hi),(vY c t).1,j0v,(vY c t).2.1,(vY c t).2.2]
theorem jAz (n:Nat) (h:n≤268435455):(if (n:Int)<128 then 1 else if (n:Int)<16384 then 2 else if (n:Int)<2097152 then 3 else if (n:Int)<268435456 then 4 else 0)=((j3a n).length:Int):=by
 rcases (show n<128∨(128≤n∧n<16384)∨(16384≤n∧n<2097152)∨(2097152≤n∧n<268435456) from by omega) with h|⟨h,h'⟩|⟨h,h'⟩|⟨h,h'⟩
 ·rw[if_pos (by omega),zY h];rfl
 ·rw[if_neg (by omega),if_pos (by omega),zX (by omega),zY (by omega)];rfl
 ·rw[if_neg (by omega),if_neg (by omega),if_pos (by omega),zX (by omega),zX (by omega),zY (by omega)];rfl
 ·rw[if_neg (by omega),if_neg (by omega),if_neg (by omega),if_pos (by omega),zX (by omega),zX (by omega),zX (by omega),zY (by omega)];rfl
def vD (n:Nat):List UInt8:=if n≤268435455 then j3a n else []
theorem jHs (n:Nat) (h:n<4294967296) (w:World):Calls Tryz.prog 36 #[.slice none 0 0,.int .u32 n] w (Lays w (vD n)):=by
 unfold vD
 by_cases h1:n≤268435455
 ·rw[if_pos h1];exact jDh none 0 [] n w h1 (Row.nil _ _) (λ_=>⟨rfl,rfl⟩) (by simp)
 ·rw[if_neg h1];exact j86 none 0 [] n w (by omega) h (Row.nil _ _) (λ_=>⟨rfl,rfl⟩) (by simp)
theorem j3t (n:Nat) (h:n<4294967296) (w:World):Calls Tryz.prog 32 #[.int .u32 n] w λe w'=>e=.returned (.int .i64 (vD n).length)∧w=w':=by
 have h2:=j1m n w (by omega) (by omega);unfold vD
 by_cases h1:n≤268435455
 ·rw[jAz n h1]at h2;rw[if_pos h1];exact h2
 ·rw[if_neg h1]
  have e:(if (n:Int)<128 then 1 else if (n:Int)<16384 then 2 else if (n:Int)<2097152 then 3 else if (n:Int)<268435456 then 4 else 0)=(0:Int):=by
   repeat rw[if_neg (by omega)]
  rw[e]at h2;exact h2
theorem jHj {w:World} {a:Option Addr} {l:List UInt8} {m:Nat} (hm:Hid (l.length=m)) (h:Row w a (B8 l)) (cap:Nat) (hn:a=none→cap=0) :
  (convert 25 9 (.slice a m cap)).run Tryz.prog w=.ok (.string ⟨l.toArray⟩) w:=by
 have h1:=hm.out;subst h1;exact jD7 _ _ _ Tryz.underlying25 Tryz.underlying5 Tryz.underlying9 h cap hn
def be:Nat→Nat→List UInt8
 | 0,_=>[]
 | k+1,n=>jN (((n / 256 ^ k:Nat):Int) % 256) :: be k n
def j4j (l:List UInt8) (x:Nat):List UInt8:=l++[jN ((x:Int) % 256)]
def j8b (l:List UInt8) (x:Nat):List UInt8:=l++[jN ((x:Int) % 65536 / 256),jN ((x:Int) % 65536 % 256)]
def j4k (l:List UInt8) (x:Nat):List UInt8:=l++[jN ((x:Int) / 16777216),jN ((x:Int) / 65536 % 256),jN ((x:Int) / 256 % 256),jN ((x:Int) % 256)]
def zl (l:List UInt8) (x:Nat):List UInt8:=l++vD x
def j0g (l:List UInt8) (s:ByteArray):List UInt8:=l++(jN ((s.size:Int) / 256) :: jN ((s.size:Int) % 256) :: s.data.toList)
theorem jN3 (a:Option Addr) (c:Nat) (l:List UInt8) (x:Nat) (w:World) (hr:Row w a (B8 l)) (hn:a=none→l.length=0∧c=0) (hl:l.length≤100000) :
  Calls Tryz.prog 34 #[.slice a l.length c,.int .u8 ((x:Int) % 256)] w (Lays w (j4j l x)):=j59 a c l _ w (by omega) (by omega) hr hn (by omega)
theorem jP8 (a:Option Addr) (c:Nat) (l:List UInt8) (x:Nat) (w:World) (hr:Row w a (B8 l)) (hn:a=none→l.length=0∧c=0) (hl:l.length≤100000) :
  Calls Tryz.prog 67 #[.slice a l.length c,.int .u16 ((x:Int) % 65536)] w (Lays w (j8b l x)):=jDf a c l _ w (by omega) (by omega) hr hn (by omega)
theorem jOe (a:Option Addr) (c:Nat) (l:List UInt8) (x:Nat) (w:World) (hx:x≤4294967295) (hr:Row w a (B8 l)) (hn:a=none→l.length=0∧c=0) (hl:l.length≤100000) :
  Calls Tryz.prog 104 #[.slice a l.length c,.int .u32 x] w (Lays w (j4k l x)):=jGh a c l _ w (by omega) (by omega) hr hn (by omega)
theorem jOz (a:Option Addr) (c:Nat) (l:List UInt8) (x:Nat) (w:World) (hx:x≤4294967295) (hr:Row w a (B8 l)) (hn:a=none→l.length=0∧c=0) (hl:l.length≤100000) :
  Calls Tryz.prog 36 #[.slice a l.length c,.int .u32 x] w (Lays w (zl l x)):=by
 unfold zl vD
 by_cases h:x≤268435455
 ·rw[if_pos h];exact jDh a c l x w h hr hn (by omega)
 ·rw[if_neg h,List.append_nil];exact j86 a c l x w (by omega) (by omega) hr hn (by omega)
theorem jI1 (a:Option Addr) (c:Nat) (l:List UInt8) (s:ByteArray) (w:World) (hs:s.size≤65535) (hr:Row w a (B8 l)) (hn:a=none→l.length=0∧c=0) (hl:l.length≤100000) :
  Calls Tryz.prog 86 #[.slice a l.length c,.string s] w (Lays w (j0g l s)):=jCi a c l s w hs hr hn (by omega)
end Go.Proofs.YtkochkhfbhjicaaGreatDoor
