import Derived.Test.YtdeecgmihfakgaaGreatDoorChecked
import Derived.Test.YtdeecgmihfakgaaGreatDoorBase
import Derived.Laws.IdiomStrings
import Derived.Lib.BufferRead
import Derived.Deep.QuietTactic
import Derived.BigQuiet
namespace Go.Proofs.YtdeecgmihfakgaaGreatDoor
set_option maxHeartbeats 1000000
open Go.RowKit
set_option linter.unusedVariables false
set_option linter.unusedSimpArgs false
set_option maxRecDepth 100000
theorem qi:(Tryz.prog.info? 5).map (λi=>(i.zero,i.size,i.bytes))=some (some (.int .u8 0),1,1):=by kernel_rfl
def Lays (w:World) (l:List UInt8) (e:Ending) (w':World):Prop :=
 ∃ g cap,e=.returned (.slice (some ⟨g,0,none⟩) l.length cap)∧w.heap.size≤g∧w'.ownsRow w.heap.size 5 1 (.slice (some ⟨g,0,none⟩) l.length cap) l.length (B8 l)∧Kept No w w'
theorem jAo {w w':World} {v:Value} {l:List UInt8} {n:Nat} {xs:List Value} (h:w'.ownsRow w.heap.size 5 1 v n xs) (hn:n=l.length) (hx:xs=B8 l) (h0:v≠.slice none 0 0) (hk:Kept No w w'):Lays w l (.returned v) w':=by
 subst hn hx;rcases h.2 with ⟨hv,_⟩|⟨g,cap,cur,hv,hg,_⟩
 ·exact absurd hv h0
 ·subst hv;exact ⟨g,cap,rfl,hg,h,hk⟩
theorem j0y {w w':World} {v:Value} {l:List UInt8} {n:Nat} {xs:List Value} (h:w'.ownsRow w.heap.size 5 1 v n xs) (hn:n=l.length) (hx:xs=B8 l) (h0:0<l.length) (hk:Kept No w w'):Lays w l (.returned v) w':=by
 subst hn hx;obtain ⟨g,cap,hv,hg,_⟩:=h.form h0;subst hv;exact ⟨g,cap,rfl,hg,h,hk⟩
theorem j0a (a:Option Addr) (c:Nat) (l:List UInt8) (room:Int) (w:World) (h0:0≤room) (hr:Row w a (B8 l)) (hn:a=none→l.length=0∧c=0) (hl:l.length+room≤140737488355328) :
  Calls Tryz.prog 120 #[.slice a l.length c,.int .i64 room] w λe w' =>
   ∃ g,e=.returned (.slice (some ⟨g,0,none⟩) l.length (l.length+room.toNat))∧w.heap.size≤g∧w'.ownsRow w.heap.size 5 1 (.slice (some ⟨g,0,none⟩) l.length (l.length+room.toNat)) l.length (B8 l)∧Kept No w w':=by
 obtain ⟨i0,hi,hz0,hz1,hz2⟩:=info_parts qi;have hm:maxLen=9223372036854775807:=rfl;obtain ⟨room,rfl⟩:=Int.eq_ofNat_of_zero_le h0;rw[Int.toNat_natCast]
 go_enter Tryz.func120,Tryz.ntmps120
 go_wp2_with (first
  | (at_make;refine wpList_make_own _ rfl _ _ _ rfl w.heap.size 5 i0 _ 1 Tryz.underlying25 hi hz0 hz1 .i64 .i64 _ (l.length+room) rfl rfl ?c1 ?c2 ?c3 (Nat.le_refl _) ?_;rotate_right;intro w1 hown1 hg1)
  | (at_builtin;refine wpList_append_fits_any _ rfl _ _ _ rfl w.heap.size 5 i0 1 Tryz.underlying25 hi hz1 _ 0 _ [] rfl hown1 a l.length c (B8 l) rfl ?d1 hn ?d2 (v8 l) ?d3 ?_;rotate_right;intro w2 hown2 hg2))
 case c1=>omega
 case c2=>rw[hz2];omega
 case c3=>omega
 case d1=>simp
 case d2=>exact (hr.keptNo ((Kept.refl No w).grown hg1 (by simp))).at_add
 case d3=>omega
 go_ret
 exact ⟨_,by simp,Nat.le_refl _,by simpa using hown2,((Kept.refl No w).grown hg1 (by simp)).grown hg2 (by simp)⟩
theorem j67 (a:Option Addr) (c:Nat) (l:List UInt8) (n:Int) (w:World) (h0:0≤n) (h1:n≤255) (hr:Row w a (B8 l)) (hn:a=none→l.length=0∧c=0) (hl:l.length≤140737000000000) :
  Calls Tryz.prog 99 #[.slice a l.length c,.int .u8 n] w (Lays w (l++[jY n])):=by
 obtain ⟨i0,hi,hz0,hz1,hz2⟩:=info_parts qi
 go_enter Tryz.func99,Tryz.ntmps99
 go_wp2_with (first
  | (go_at_call 120;refine (j0a a c l 1 _ (by omega) hr hn (by omega)).mono ?_;rintro e w1 ⟨g,rfl,hg,hown1,hk1⟩)
  | (at_builtin;refine wpList_append_fits_any _ rfl _ _ _ rfl w.heap.size 5 i0 1 Tryz.underlying25 hi hz1 _ _ _ _ rfl (hown1.alloc _) (some ⟨w1.heap.size,0,none⟩) 1 1 (B8 [jY n]) rfl ?d1 (by simp) ?d3 (v8 _) ?d4 ?_;rotate_right;intro w2 hown2 hg2))
 case d1=>simp
 case d3=>exact j71 (by repeat (first|rfl|rw[zf (by omega) (by omega)]))
 case d4=>simp
 go_ret
 exact j0y hown2 (by simp) (by simp[jq]) (by simp) ((hk1.alloc _).grown hg2 (by rintro k ⟨⟩;exact .inl hg))
theorem jDr (a:Option Addr) (c:Nat) (l:List UInt8) (n:Int) (w:World) (h0:0≤n) (h1:n≤65535) (hr:Row w a (B8 l)) (hn:a=none→l.length=0∧c=0) (hl:l.length≤140737000000000) :
  Calls Tryz.prog 145 #[.slice a l.length c,.int .u16 n] w (Lays w (l++[jY (n / 256),jY (n % 256)])):=by
 obtain ⟨i0,hi,hz0,hz1,hz2⟩:=info_parts qi
 go_enter Tryz.func145,Tryz.ntmps145
 go_wp2_with (first
  | (go_at_call 120;refine (j0a a c l 2 _ (by omega) hr hn (by omega)).mono ?_;rintro e w1 ⟨g,rfl,hg,hown1,hk1⟩)
  | (at_builtin;refine wpList_append_fits_any _ rfl _ _ _ rfl w.heap.size 5 i0 1 Tryz.underlying25 hi hz1 _ _ _ _ rfl (hown1.alloc _) (some ⟨w1.heap.size,0,none⟩) 2 2 (B8 [jY (n / 256),jY (n % 256)]) rfl ?d1 (by simp) ?d3 (v8 _) ?d4 ?_;rotate_right;intro w2 hown2 hg2))
 case d1=>simp
 case d3=>exact j71 (by repeat (first|rfl|rw[zf (by omega) (by omega)]))
 case d4=>simp
 go_ret
 exact j0y hown2 (by simp) (by simp[jq]) (by simp) ((hk1.alloc _).grown hg2 (by rintro k ⟨⟩;exact .inl hg))
theorem jGv (a:Option Addr) (c:Nat) (l:List UInt8) (n:Int) (w:World) (h0:0≤n) (h1:n≤4294967295) (hr:Row w a (B8 l)) (hn:a=none→l.length=0∧c=0) (hl:l.length≤140737000000000) :
  Calls Tryz.prog 197 #[.slice a l.length c,.int .u32 n] w (Lays w (l++[jY (n / 16777216),jY (n / 65536 % 256),jY (n / 256 % 256),jY (n % 256)])):=by
 obtain ⟨i0,hi,hz0,hz1,hz2⟩:=info_parts qi
 go_enter Tryz.func197,Tryz.ntmps197
 go_wp2_with (first
  | (go_at_call 120;refine (j0a a c l 4 _ (by omega) hr hn (by omega)).mono ?_;rintro e w1 ⟨g,rfl,hg,hown1,hk1⟩)
  | (at_builtin;refine wpList_append_fits_any _ rfl _ _ _ rfl w.heap.size 5 i0 1 Tryz.underlying25 hi hz1 _ _ _ _ rfl (hown1.alloc _) (some ⟨w1.heap.size,0,none⟩) 4 4 (B8 [jY (n / 16777216),jY (n / 65536 % 256),jY (n / 256 % 256),jY (n % 256)]) rfl ?d1 (by simp) ?d3 (v8 _) ?d4 ?_;rotate_right;intro w2 hown2 hg2))
 case d1=>simp
 case d3=>exact j71 (by repeat (first|rfl|rw[zf (by omega) (by omega)]))
 case d4=>simp
 go_ret
 exact j0y hown2 (by simp) (by simp[jq]) (by simp) ((hk1.alloc _).grown hg2 (by rintro k ⟨⟩;exact .inl hg))
theorem j2p (n:Int) (w:World) (h0:0≤n) (h1:n<4294967296) :
  Calls Tryz.prog 58 #[.int .u32 n] w λe w' =>
   e=.returned (.int .i64 (if n<128 then 1 else if n<16384 then 2 else if n<2097152 then 3 else if n<268435456 then 4 else 0))∧w=w':=by
 rcases (show n<128∨(128≤n∧n<16384)∨(16384≤n∧n<2097152)∨(2097152≤n∧n<268435456)∨268435456≤n from by omega) with h|⟨h,h'⟩|⟨h,h'⟩|⟨h,h'⟩|h
 all_goals
  go_enter Tryz.func58,Tryz.ntmps58
  go_wp2
  refine wp_loop_rounds 5 ?_
  repeat (rw[rounds_succ];go_wp2)
  go_ret
  refine ⟨?_,rfl⟩
  congr 2
  repeat (first|rw[if_pos (by omega)]|rw[if_neg (by omega)])
theorem jCx (a:Option Addr) (c:Nat) (l:List UInt8) (s:ByteArray) (w:World) (h1:s.size≤65535) (hr:Row w a (B8 l)) (hn:a=none→l.length=0∧c=0) (hl:l.length≤140737000000000) :
  Calls Tryz.prog 176 #[.slice a l.length c,.string s] w (Lays w (l++jY (s.size / 256) :: jY (s.size % 256) :: s.data.toList)):=by
 obtain ⟨i0,hi,hz0,hz1,hz2⟩:=info_parts qi;have hm:maxLen=9223372036854775807:=rfl
 go_enter Tryz.func176,Tryz.ntmps176
 go_wp2_with (first
  | (go_at_call 120;refine (j0a a c l (2+s.size) _ (by omega) hr hn (by omega)).mono ?_;rintro e w1 ⟨g,rfl,hg,hown1,hk1⟩)
  | (at_builtin;refine wpList_append_fits_any _ rfl (.tmp 17) (.tmp 23) _ rfl w.heap.size 5 i0 1 Tryz.underlying25 hi hz1 _ _ _ _ rfl (hown1.alloc _) (some ⟨w1.heap.size,0,none⟩) 2 2 (B8 [jY (s.size / 256),jY (s.size % 256)]) rfl ?d1 (by simp) ?d3 (v8 _) ?d4 ?_;rotate_right;intro w2 hown2 hg2)
  | (at_builtin;refine Lib.wpList_append_own_string _ rfl _ _ _ _ rfl w.heap.size 5 i0 Tryz.underlying25 Tryz.underlying9 hi hz0 hz1 hz2 _ _ _ rfl hown2 s rfl ?f1 ?f2 ?f3 ?_;rotate_right;intro v3 w3 hown3 hg3 _))
 case d1=>simp
 case d3=>exact j71 (by repeat (first|rfl|rw[zf (by omega) (by omega)]))
 case d4=>omega
 case f1=>omega
 case f2=>omega
 case f3=>exact Nat.le_trans hk1.size (Nat.le_trans (by simp) hg2.size)
 go_ret
 have hk2:=(hk1.alloc (.cells #[.int .u8 (s.size / 256),.int .u8 (s.size % 256)] 5)).grown hg2 (by rintro k ⟨⟩;exact .inl hg);exact j0y hown3 (by simp;omega) (by simp[jq,B8,Lib.strCells]) (by simp;omega) (hk2.grown hg3 (qq hown2))
def j3n (n:Nat):List UInt8:=if n<128 then [jY n] else jY ((n:Int) % 128+128) :: j3n (n / 128)
termination_by n
decreasing_by omega
theorem zo {n:Nat} (h:n<128):j3n n=[jY n]:=by rw[j3n,if_pos h]
theorem j10 {n:Nat} (h:¬ n<128):j3n n=jY ((n:Int) % 128+128) :: j3n (n / 128):=by rw[j3n,if_neg h]
set_option maxRecDepth 100000 in
theorem jDt (a:Option Addr) (c:Nat) (l:List UInt8) (n:Nat) (w:World) (h1:n≤268435455) (hr:Row w a (B8 l)) (hn:a=none→l.length=0∧c=0) (hl:l.length≤140737000000000) :
  Calls Tryz.prog 101 #[.slice a l.length c,.int .u32 n] w (Lays w (l++j3n n)):=by
 obtain ⟨i0,hi,hz0,hz1,hz2⟩:=info_parts qi;have hm:maxLen=9223372036854775807:=rfl;have hv:=j2p (n:Int) w (by omega) (by omega)
 obtain ⟨z,hz,hz'⟩:∃ z:Nat,z≤4∧(if (n:Int)<128 then 1 else if (n:Int)<16384 then 2 else if (n:Int)<2097152 then 3 else if (n:Int)<268435456 then 4 else 0)=(z:Int):=by
  repeat' split
  ·exact ⟨1,by omega,rfl⟩
  ·exact ⟨2,by omega,rfl⟩
  ·exact ⟨3,by omega,rfl⟩
  ·exact ⟨4,by omega,rfl⟩
  ·exact ⟨0,by omega,rfl⟩
 rw[hz']at hv;have H:=Lib.hid hv;clear hv hz'
 go_enter Tryz.func101,Tryz.ntmps101
 go_wp2_with (first
  | (go_at_call 58;refine H.out.mono ?_;rintro e w1 ⟨rfl,rfl⟩)
  | (go_at_call 120;refine (j0a a c l z _ (by omega) hr hn (by omega)).mono ?_;rintro e w1 ⟨g,rfl,hg,hown1,hk1⟩))
 clear H
 go_loopw [1,5] (λm v wr=>∃ (x:Nat) (p:List UInt8),m=.int .u32 x∧x≤n∧p++j3n x=j3n n∧wr.ownsRow w.heap.size 5 1 v (l++p).length (B8 (l++p))∧Kept No w wr∧p.length+x≤n) (λm _ _=>(intOf m).toNat)
 case atStart=>exact ⟨n,[],rfl,by omega,rfl,by simpa using hown1,hk1,by simp⟩
 case round =>
  obtain ⟨x,p,rfl,hx,hp,hown,hk,hpl⟩:=hrel;have HP:=Lib.hid hp;clear hp hown1 hk1 hg;have hsz:=hk.size
  by_cases hlt:x<128
  ·go_wp2_with (at_builtin;refine wpList_append_own _ rfl _ _ _ rfl w.heap.size 5 i0 _ 1 1 Tryz.underlying25 hi hz0 hz1 hz2 rfl (by decide) _ _ _ rfl (hown.alloc _) ⟨wr.heap.size,0,none⟩ 1 1 (B8 [jY x]) rfl rfl ?c1 (v8 _) ?c2 ?c3 ?c4 ?_;rotate_right;intro v2 w2 hown2 hg2 _)
   case c1=>exact j4w (by rw[zf (by omega) (by omega)];rfl)
   case c2=>simp;omega
   case c3=>simp;omega
   case c4=>simp;omega
   go_ret
   refine j0y hown2 (by rw[← HP.out,zo hlt];simp;omega) (by rw[← HP.out,zo hlt];simp[jq,B8]) (by rw[← HP.out,zo hlt];simp;omega) ((hk.alloc _).grown hg2 (qq hown))
  ·go_wp2_with (at_builtin;refine wpList_append_own _ rfl _ _ _ rfl w.heap.size 5 i0 _ 1 1 Tryz.underlying25 hi hz0 hz1 hz2 rfl (by decide) _ _ _ rfl (hown.alloc _) ⟨wr.heap.size,0,none⟩ 1 1 (B8 [jY ((x:Int) % 128+128)]) rfl rfl ?c1b (v8 _) ?c2b ?c3b ?c4b ?_;rotate_right;intro v2 w2 hown2 hg2 _)
   case c1b=>exact j4w (by rw[zf (by omega) (by omega)];rfl)
   case c2b=>simp;omega
   case c3b=>simp;omega
   case c4b=>simp;omega
   go_roundw
   case rel=>exact ⟨x / 128,p++[jY ((x:Int) % 128+128)],by go_num,by omega,by rw[← HP.out,j10 hlt];simp,by simpa [jq,List.append_assoc,Nat.add_assoc] using hown2,(hk.alloc _).grown hg2 (qq hown),by simp;omega⟩
   case measure=>simp[intOf];omega
theorem j8o (a:Option Addr) (c:Nat) (l:List UInt8) (n:Nat) (w:World) (h1:268435455<n) (h2:n<4294967296) (hr:Row w a (B8 l)) (hn:a=none→l.length=0∧c=0) (hl:l.length≤140737000000000) :
  Calls Tryz.prog 101 #[.slice a l.length c,.int .u32 n] w (Lays w l):=by
 have hv:=j2p (n:Int) w (by omega) (by omega)
 have e:(if (n:Int)<128 then 1 else if (n:Int)<16384 then 2 else if (n:Int)<2097152 then 3 else if (n:Int)<268435456 then 4 else 0)=(0:Int):=by
  repeat rw[if_neg (by omega)]
 rw[e]at hv;have H:=Lib.hid hv;clear hv e
 go_enter Tryz.func101,Tryz.ntmps101
 go_wp2_with (first
  | (go_at_call 58;refine H.out.mono ?_;rintro e w1 ⟨rfl,rfl⟩)
  | (go_at_call 120;refine (j0a a c l 0 _ (by omega) hr hn (by omega)).mono ?_;rintro e w1 ⟨g,rfl,hg,hown1,hk1⟩))
 go_ret
 exact ⟨g,_,rfl,hg,hown1,hk1⟩
theorem jDl {P:Program} {w:World} (src dst e:TypeId) (hs:P.underlying src=some (.slice e)) (he:P.underlying e=some (.int .u8)) (hd:P.underlying dst=some .string)
  {a:Option Addr} {l:List UInt8} (h:Row w a (B8 l)) (cap:Nat) (hn:a=none→cap=0):(convert src dst (.slice a l.length cap)).run P w=.ok (.string ⟨l.toArray⟩) w:=by
 cases a with
 | none =>
  obtain rfl:=hn rfl;rcases h with h|⟨b,off,h,_⟩
  ·obtain rfl:l=[]:=by cases l<;>simp_all [B8]
   exact Lib.run_convert_nil_bytes w src dst e 0 hs he hd
  ·cases h
 | some ad=>exact run_convert_bytes_back w src dst e ad cap l hs he hd λj hj=>h.at_add ad rfl j _ (jL3 l j hj)
def Typ (w:World) (a:Option Addr) (l:List UInt8):Prop:=∀ b off,a=some ⟨b,off,none⟩→l≠[]→∃ cs fz,w.heap[b]?=some (.cells cs 5 fz)
theorem Typ.nil (w:World) (a:Option Addr):Typ w a []:=λ_ _ _ h=>absurd rfl h
theorem Typ.kept {w w':World} {S:Nat→Prop} {a:Option Addr} {l:List UInt8} (h:Typ w a l) (hk:Kept S w w') (hS:∀ b off,a=some ⟨b,off,none⟩→l≠[]→¬ S b):Typ w' a l:=by
 intro b off ha hl;obtain ⟨cs,fz,hb⟩:=h b off ha hl;exact ⟨cs,fz,(hk.block b (Array.getElem?_eq_some_iff.1 hb).1 (hS b off ha hl)).trans hb⟩
def Rdr (w:World) (r:Nat) (l:List UInt8) (err:Int):Prop :=
 ∃ a c,Blk w r 175 #[.slice a l.length c,.int .i64 err]∧l.length≤c∧(a=none→c=0)∧Row w a (B8 l)∧l.length≤140737000000000∧(err≠0→l=[])∧Typ w a l
theorem Rdr.lt {w:World} {r:Nat} {l:List UInt8} {err:Int} (h:Rdr w r l err):r<w.heap.size:=by obtain ⟨a,c,hb,_⟩:=h;exact hb.lt
def NoByte (w:World) (b:Nat):Prop:=∀ off n,w.cell? ⟨b,off,none⟩≠some (.int .u8 n)
theorem NoByte.two {w:World} {b:Nat} {t:TypeId} {x y:Value} (hb:Blk w b t #[x,y]) (hx:∀ n,x≠.int .u8 n) (hy:∀ n,y≠.int .u8 n):NoByte w b:=by
 intro off n h;rw[hb.cell]at h
 match off,h with
 | 0,h=>exact hx _ (by simpa using h)
 | 1,h=>exact hy _ (by simpa using h)
 | k+2,h=>simp at h
theorem NoByte.three {w:World} {b:Nat} {t:TypeId} {x y z:Value} (hb:Blk w b t #[x,y,z]) (hx:∀ n,x≠.int .u8 n) (hy:∀ n,y≠.int .u8 n) (hz:∀ n,z≠.int .u8 n):NoByte w b:=by
 intro off n h;rw[hb.cell]at h
 match off,h with
 | 0,h=>exact hx _ (by simpa using h)
 | 1,h=>exact hy _ (by simpa using h)
 | 2,h=>exact hz _ (by simpa using h)
 | k+3,h=>simp at h
theorem jCh {w w':World} {S:Nat→Prop} {a:Option Addr} {l:List UInt8} (h:Row w a (B8 l)) (hk:Kept S w w') (hs:∀ b,S b→b<w.heap.size→NoByte w b):Row w' a (B8 l):=by
 refine h.kept hk λb off ha hne hS=>?_
 rcases h with h|⟨b',off',he,hlt,hc⟩
 ·exact hne h
 ·rw[ha]at he
  injection he with he;injection he with e1 e2;subst e1 e2;cases l with
  | nil=>exact hne rfl
  | cons u l=>exact hs b hS hlt off _ (hc 0 _ rfl)
theorem jHt {w:World} {S:Nat→Prop} {a:Option Addr} {l:List UInt8} (h:Row w a (B8 l)) (hs:∀ b,S b→b<w.heap.size→NoByte w b):∀ b off,a=some ⟨b,off,none⟩→l≠[]→¬ S b:=by
 intro b off ha hl hS;rcases h with h|⟨b',off',he,hlt,hc⟩
 ·cases l with
  | nil=>exact hl rfl
  | cons u l=>simp[B8]at h
 ·rw[ha]at he
  injection he with he;injection he with e1 e2;subst e1 e2;cases l with
  | nil=>exact hl rfl
  | cons u l=>exact hs b hS hlt off _ (hc 0 _ rfl)
theorem Rdr.kept {w w':World} {S:Nat→Prop} {r:Nat} {l:List UInt8} {err:Int} (h:Rdr w r l err) (hk:Kept S w w') (hr:¬ S r) (hs:∀ b,S b→b<w.heap.size→NoByte w b):Rdr w' r l err:=by
 obtain ⟨a,c,hb,h1,h2,h3,h4,h5,h6⟩:=h;exact ⟨a,c,hb.kept hk hr,h1,h2,jCh h3 hk hs,h4,h5,h6.kept hk (jHt h3 hs)⟩
theorem Rdr.keptTyp {w w':World} {S:Nat→Prop} {r:Nat} {l:List UInt8} {err:Int} (h:Rdr w r l err) (hk:Kept S w w') (hr:¬ S r) (hs:∀ b,S b→∀ cs fz,w.heap[b]?≠some (.cells cs 5 fz)):Rdr w' r l err:=by
 obtain ⟨a,c,hb,h1,h2,h3,h4,h5,h6⟩:=h
 have hn:∀ b off,a=some ⟨b,off,none⟩→l≠[]→¬ S b:=λb off ha hl hS=>by
  obtain ⟨cs,fz,hx⟩:=h6 b off ha hl;exact hs b hS cs fz hx
 exact ⟨a,c,hb.kept hk hr,h1,h2,h3.kept hk (λb off ha hx=>hn b off ha (λe=>hx (by rw[e];rfl))),h4,h5,h6.kept hk hn⟩
theorem Rdr.setOther {w:World} {r:Nat} {l:List UInt8} {err:Int} (h:Rdr w r l err) {q i:Nat} {t:TypeId} {cs:Array Value} (hq:Blk w q t cs) (ht:t≠5) (hr:r≠q) (u:Value):Rdr (w.setCell ⟨q,i,none⟩ u) r l err :=
 h.keptTyp ((Kept.refl (One q) w).setCell (p:=⟨q,i,none⟩) (.inr rfl) u) hr (λb hb cs' fz hx=>by
  obtain rfl:b=q:=hb;unfold Blk at hq;rw[hq]at hx;injection hx with hx;injection hx with _ h2 _;exact ht h2)
theorem Rdr.noByte {w:World} {r:Nat} {l:List UInt8} {err:Int} (h:Rdr w r l err):NoByte w r:=by
 obtain ⟨a,c,hb,_⟩:=h;exact NoByte.two hb (by simp) (by simp)
theorem Rdr.keptNo {w w':World} {r:Nat} {l:List UInt8} {err:Int} (h:Rdr w r l err) (hk:Kept No w w'):Rdr w' r l err:=h.kept hk (λf=>f) (λ_ f=>f.elim)
theorem Rdr.cells {w:World} {r:Nat} {l:List UInt8} {err:Int} (h:Rdr w r l err) :
  ∃ a c,w.cell? ⟨r,0,none⟩=some (.slice a l.length c)∧w.cell? ⟨r,1,none⟩=some (.int .i64 err)∧w.frozen? ⟨r,0,none⟩=false∧w.frozen? ⟨r,1,none⟩=false:=by
 obtain ⟨a,c,hb,_⟩:=h;exact ⟨a,c,by rw[hb.cell];rfl,by rw[hb.cell];rfl,hb.frozen 0,hb.frozen 1⟩
theorem Rdr.far {w:World} {r s:Nat} {l:List UInt8} {err:Int} (h:Rdr w r l err) {l':List UInt8} {err':Int} (hs:Rdr w s l' err') (hne:r≠s) (p:Addr) (hp:p.block=s) (v:Value):Rdr (w.setCell p v) r l err :=
 h.kept ((Kept.refl (One s) w).setCell (.inr hp) _) hne λb hb _=>by
  obtain rfl:b=s:=hb;exact hs.noByte
structure jP7 (w w':World) (r:Nat) (l:List UInt8) (err:Int):Prop where
 rdr:Rdr w' r l err
 kept:Kept (One r) w w'
def RefR (w:World) (r:Nat) (B:ByteArray) (l:List UInt8) (err:Int):Prop :=
 ∃ at_:Nat,Blk w r 135 #[.string B,.int .i64 at_,.int .i64 err]∧at_≤B.size∧B.size≤140737000000000∧(err=0→l=B.data.toList.drop at_)∧(err≠0→l=[])
theorem RefR.lt {w:World} {r:Nat} {B:ByteArray} {l:List UInt8} {err:Int} (h:RefR w r B l err):r<w.heap.size:=by obtain ⟨a,hb,_⟩:=h;exact hb.lt
theorem RefR.kept {w w':World} {S:Nat→Prop} {r:Nat} {B:ByteArray} {l:List UInt8} {err:Int} (h:RefR w r B l err) (hk:Kept S w w') (hr:¬ S r):RefR w' r B l err:=by
 obtain ⟨a,hb,h2⟩:=h;exact ⟨a,hb.kept hk hr,h2⟩
theorem RefR.noByte {w:World} {r:Nat} {B:ByteArray} {l:List UInt8} {err:Int} (h:RefR w r B l err):NoByte w r:=by
 obtain ⟨a,hb,_⟩:=h;exact NoByte.three hb (by simp) (by simp) (by simp)
structure jL7 (w w':World) (r:Nat) (B:ByteArray) (l:List UInt8) (err:Int):Prop where
 rdr:RefR w' r B l err
 kept:Kept (One r) w w'
theorem jEz (B:ByteArray):B.data.toList.length=B.size:=by rw[Array.length_toList];rfl
theorem RefR.cells {w:World} {r:Nat} {B:ByteArray} {l:List UInt8} {err:Int} (h:RefR w r B l err) :
  ∃ a:Nat,w.cell? ⟨r,0,none⟩=some (.string B)∧w.cell? ⟨r,1,none⟩=some (.int .i64 a)∧w.cell? ⟨r,2,none⟩=some (.int .i64 err):=by
 obtain ⟨a,hb,_⟩:=h;exact ⟨a,by rw[hb.cell];rfl,by rw[hb.cell];rfl,by rw[hb.cell];rfl⟩
theorem RefR.on {w:World} {r:Nat} {B:ByteArray} {at_:Nat} (hb:Blk w r 135 #[.string B,.int .i64 at_,.int .i64 0]) (h2:B.size≤140737000000000) (n k:Nat) (hk:at_+k≤B.size) (x:Int) (hx:x=(at_+k:Nat)) :
  jL7 w ((w.drewN n).setCell ⟨r,1,none⟩ (.int .i64 x)) r B ((B.data.toList.drop at_).drop k) 0:=by
 subst hx;exact ⟨⟨at_+k,hb.set2 _ _ _ (by simp),hk,h2,λ_=>by rw[List.drop_drop],λh=>absurd rfl h⟩,((Kept.refl (One r) w).drewN n).setCell (p:=⟨r,1,none⟩) (.inr rfl) _⟩
set_option maxRecDepth 100000 in
theorem j7r (a:Option Addr) (c:Nat) (l:List UInt8) (n:Nat) (w:World) (h1:268435455<n) (h2:n<4294967296) (hr:Row w a (B8 l)) (hn:a=none→c=0) (hl:l.length≤140737000000000) :
  Calls Tryz.prog 55 #[.slice a l.length c,.int .u32 n] w (Lays w l):=by
 obtain ⟨i0,hi,hz0,hz1,hz2⟩:=info_parts qi;have hm:maxLen=9223372036854775807:=rfl
 go_enter Tryz.func55,Tryz.ntmps55
 go_wp2_with (at_builtin;refine jm _ rfl _ _ _ rfl w.heap.size 5 i0 _ 1 Tryz.underlying25 hi hz0 hz1 hz2 rfl _ _ _ rfl (xx w _ _ (Nat.le_refl _)) a l.length c (B8 l) rfl (by simp) ?c0 hn (v8 _) ?c1 ?c2 ?c3 ?_;rotate_right;intro v2 w2 hown2 hg2 hv2)
 case c0=>exact hr.keptNo ((Kept.refl No w).alloc _)
 case c1=>omega
 case c2=>omega
 case c3=>simp
 go_ret
 exact jAo hown2 (by simp) (by simp) (by intro h;have h9:=hv2.1 h;cases h9.1) (((Kept.refl No w).alloc _).grown hg2 (qq (xx w _ 5 (Nat.le_refl _))))
set_option maxRecDepth 100000 in
theorem jB1 (a:Option Addr) (c:Nat) (l:List UInt8) (n:Nat) (w:World) (h1:n≤268435455) (hr:Row w a (B8 l)) (hn:a=none→c=0) (hl:l.length≤140737000000000) :
  Calls Tryz.prog 55 #[.slice a l.length c,.int .u32 n] w (Lays w (l++j3n n)):=by
 obtain ⟨i0,hi,hz0,hz1,hz2⟩:=info_parts qi;have hm:maxLen=9223372036854775807:=rfl
 go_enter Tryz.func55,Tryz.ntmps55
 go_wp2_with (at_builtin;refine jm _ rfl _ _ _ rfl w.heap.size 5 i0 _ 1 Tryz.underlying25 hi hz0 hz1 hz2 rfl _ _ _ rfl (xx w _ _ (Nat.le_refl _)) a l.length c (B8 l) rfl (by simp) ?c0 hn (v8 _) ?c1 ?c2 ?c3 ?_;rotate_right;intro v1 w1 hown1 hg1 hv1)
 case c0=>exact hr.keptNo ((Kept.refl No w).alloc _)
 case c1=>omega
 case c2=>omega
 case c3=>simp
 have hk1:Kept No w w1:=((Kept.refl No w).alloc _).grown hg1 (qq (xx w _ 5 (Nat.le_refl _)));clear hg1 hv1
 go_loopw [1,5] (λm v wr=>∃ (x:Nat) (p:List UInt8),m=.int .u32 x∧x≤n∧p++j3n x=j3n n∧wr.ownsRow w.heap.size 5 1 v (l++p).length (B8 (l++p))∧Kept No w wr∧p.length+x≤n) (λm _ _=>(intOf m).toNat)
 case atStart=>exact ⟨n,[],rfl,by omega,rfl,by simpa using hown1,hk1,by simp⟩
 case round =>
  obtain ⟨x,p,rfl,hx,hp,hown,hk,hpl⟩:=hrel;have HP:=Lib.hid hp;clear hp hown1 hk1;have hsz:=hk.size
  by_cases hlt:x<128
  ·go_wp2_with (at_builtin;refine wpList_append_own _ rfl _ _ _ rfl w.heap.size 5 i0 _ 1 1 Tryz.underlying25 hi hz0 hz1 hz2 rfl (by decide) _ _ _ rfl (hown.alloc _) ⟨wr.heap.size,0,none⟩ 1 1 (B8 [jY x]) rfl rfl ?e1 (v8 _) ?e2 ?e3 ?e4 ?_;rotate_right;intro v2 w2 hown2 hg2 _)
   case e1=>exact j4w (by rw[zf (by omega) (by omega)];rfl)
   case e2=>simp;omega
   case e3=>simp;omega
   case e4=>simp;omega
   go_ret
   refine j0y hown2 (by rw[← HP.out,zo hlt];simp;omega) (by rw[← HP.out,zo hlt];simp[jq,B8]) (by rw[← HP.out,zo hlt];simp;omega) ((hk.alloc _).grown hg2 (qq hown))
  ·go_wp2_with (at_builtin;refine wpList_append_own _ rfl _ _ _ rfl w.heap.size 5 i0 _ 1 1 Tryz.underlying25 hi hz0 hz1 hz2 rfl (by decide) _ _ _ rfl (hown.alloc _) ⟨wr.heap.size,0,none⟩ 1 1 (B8 [jY ((x:Int) % 128+128)]) rfl rfl ?e1b (v8 _) ?e2b ?e3b ?e4b ?_;rotate_right;intro v2 w2 hown2 hg2 _)
   case e1b=>exact j4w (by rw[zf (by omega) (by omega)];rfl)
   case e2b=>simp;omega
   case e3b=>simp;omega
   case e4b=>simp;omega
   go_roundw
   case rel=>exact ⟨x / 128,p++[jY ((x:Int) % 128+128)],by go_num,by omega,by rw[← HP.out,j10 hlt];simp,by simpa [jq,List.append_assoc,Nat.add_assoc] using hown2,(hk.alloc _).grown hg2 (qq hown),by simp;omega⟩
   case measure=>simp[intOf];omega
theorem jBf (n:Nat) (h:n≤268435455):(if (n:Int)<128 then 1 else if (n:Int)<16384 then 2 else if (n:Int)<2097152 then 3 else if (n:Int)<268435456 then 4 else 0)=((j3n n).length:Int):=by
 rcases (show n<128∨(128≤n∧n<16384)∨(16384≤n∧n<2097152)∨(2097152≤n∧n<268435456) from by omega) with h|⟨h,h'⟩|⟨h,h'⟩|⟨h,h'⟩
 ·rw[if_pos (by omega),zo h];rfl
 ·rw[if_neg (by omega),if_pos (by omega),j10 (by omega),zo (by omega)];rfl
 ·rw[if_neg (by omega),if_neg (by omega),if_pos (by omega),j10 (by omega),j10 (by omega),zo (by omega)];rfl
 ·rw[if_neg (by omega),if_neg (by omega),if_neg (by omega),if_pos (by omega),j10 (by omega),j10 (by omega),j10 (by omega),zo (by omega)];rfl
def ze (n:Nat):List UInt8:=if n≤268435455 then j3n n else []
theorem jIc (n:Nat) (h:n<4294967296) (w:World):Calls Tryz.prog 101 #[.slice none 0 0,.int .u32 n] w (Lays w (ze n)):=by
 unfold ze
 by_cases h1:n≤268435455
 ·rw[if_pos h1];exact jDt none 0 [] n w h1 (Row.nil _ _) (λ_=>⟨rfl,rfl⟩) (by simp)
 ·rw[if_neg h1];exact j8o none 0 [] n w (by omega) h (Row.nil _ _) (λ_=>⟨rfl,rfl⟩) (by simp)
theorem j56 (n:Nat) (h:n<4294967296) (w:World):Calls Tryz.prog 58 #[.int .u32 n] w λe w'=>e=.returned (.int .i64 (ze n).length)∧w=w':=by
 have h2:=j2p n w (by omega) (by omega);unfold ze
 by_cases h1:n≤268435455
 ·rw[jBf n h1]at h2;rw[if_pos h1];exact h2
 ·rw[if_neg h1]
  have e:(if (n:Int)<128 then 1 else if (n:Int)<16384 then 2 else if (n:Int)<2097152 then 3 else if (n:Int)<268435456 then 4 else 0)=(0:Int):=by
   repeat rw[if_neg (by omega)]
  rw[e]at h2;exact h2
theorem Rdr.held {w5 w:World} {r:Nat} {l:List UInt8} {err:Int} {A:Prop} (h:Rdr w5 r l err) (hS:A∧Kept No w5 w):Rdr w r l err:=h.keptNo hS.2
theorem jN7 {w:World} {a:Option Addr} {l:List UInt8} {m:Nat} (hm:Hid (l.length=m)) (h:Row w a (B8 l)) (cap:Nat) (hn:a=none→cap=0) :
  (convert 25 9 (.slice a m cap)).run Tryz.prog w=.ok (.string ⟨l.toArray⟩) w:=by
 have h1:=hm.out;subst h1;exact jDl _ _ _ Tryz.underlying25 Tryz.underlying5 Tryz.underlying9 h cap hn
def be:Nat→Nat→List UInt8
 | 0,_=>[]
 | k+1,n=>jY (((n / 256 ^ k:Nat):Int) % 256) :: be k n
theorem jBp:∀ k n,(be k n).length=k
 | 0,_=>rfl
 | k+1,n=>by simp[be,jBp k n]
theorem jIj (k n m:Nat) (h:m=n / 256 ^ k):be (k+1) n=jY ((m:Int) % 256) :: be k n:=by subst h;rfl
theorem jFk (n j m:Nat) (h:m=n / 256 ^ j):m / 256=n / 256 ^ (j+1):=by
 subst h;rw[Nat.pow_succ,← Nat.div_div_eq_div_mul]
theorem jKl (m:Nat):Value.int .u64 ((m:Int) / 256)=.int .u64 ((m / 256:Nat):Int):=by
 congr 1
set_option maxRecDepth 100000 in
theorem j0q (a:Option Addr) (c:Nat) (l:List UInt8) (n:Nat) (sz:Int) (s:Nat) (hsz:sz=(s:Int)+1) (w:World) (h1:n≤4294967295) (hs:s≤3) (hr:Row w a (B8 l)) (hn:a=none→c=0) (hl:l.length≤140737000000000) :
  Calls Tryz.prog 69 #[.slice a l.length c,.int .u64 n,.int .i64 sz] w (Lays w (l++be (s+1) n)):=by
 obtain ⟨i0,hi,hz0,hz1,hz2⟩:=info_parts qi;have hm:maxLen=9223372036854775807:=rfl;subst hsz
 go_enter Tryz.func69,Tryz.ntmps69
 go_wp2_with (at_builtin;refine jm _ rfl _ _ _ rfl w.heap.size 5 i0 _ 1 Tryz.underlying25 hi hz0 hz1 hz2 rfl _ _ _ rfl (xx w _ _ (Nat.le_refl _)) a l.length c (B8 l) rfl (by simp) ?c0 hn (v8 _) ?c1 ?c2 ?c3 ?_;rotate_right;intro v1 w1 hown1 hg1 hv1)
 case c0=>exact hr.keptNo ((Kept.refl No w).alloc _)
 case c1=>omega
 case c2=>omega
 case c3=>simp
 have hk1:Kept No w w1:=((Kept.refl No w).alloc _).grown hg1 (qq (xx w _ 5 (Nat.le_refl _)));clear hg1 hv1
 go_loopw [7,8] (λv i wr=>∃ (k:Nat) (p:List UInt8),((k=0∧i=.int .i64 (-1))∨∃ k':Nat,k=k'+1∧i=.int .i64 k')∧k≤s+1∧p++be k n=be (s+1) n∧p.length+k=s+1∧wr.ownsRow w.heap.size 5 1 v (l++p).length (B8 (l++p))∧Kept No w wr) (λ_ i _=>(intOf i+1).toNat)
 case atStart=>exact ⟨s+1,[],.inr ⟨s,rfl,by go_num⟩,by omega,rfl,by simp,by simpa using hown1,hk1⟩
 case round =>
  obtain ⟨k,p,hik,hks,hp,hpl,hown,hk⟩:=hrel;have HP:=Lib.hid hp;have HPL:=Lib.hid hpl;have hpl3:p.length≤4:=by omega
  clear hp hown1 hk1 hpl;have hsz:=hk.size;rcases hik with ⟨rfl,rfl⟩|⟨k',rfl,rfl⟩
  ·go_wp2
   go_ret
   have e1:p=be (s+1) n:=by rw[← HP.out];simp[be]
   subst e1;exact j0y hown rfl rfl (by simp[jBp];omega) hk
  ·go_wp2
   go_loop [9,10] (λx j=>∃ (jn m:Nat),jn≤k'∧j=.int .i64 jn∧x=.int .u64 m∧Hid (m=n / 256 ^ jn)∧m≤4294967295) (λ_ j=>k' - (intOf j).toNat)
   case atStart=>exact ⟨0,n,by omega,rfl,rfl,Lib.hid (by simp),h1⟩
   case round =>
    obtain ⟨jn,m,hj,rfl,rfl,HM,hm9⟩:=hrel
    by_cases hlt:jn<k'
    ·have hltI:(jn:Int)<k':=by omega
     go_wp2
     go_round
     case rel=>exact ⟨jn+1,m / 256,by omega,by go_num,jKl m,Lib.hid (jFk n jn m HM.out),by omega⟩
     case measure=>simp[intOf];omega
    ·have hjk:jn=k':=by omega
     have HJ:=Lib.hid hjk;have hge:(k':Int)≤jn:=by omega
     clear hjk
     go_wp2_with (at_builtin;refine wpList_append_own _ rfl _ _ _ rfl w.heap.size 5 i0 _ 1 1 Tryz.underlying25 hi hz0 hz1 hz2 rfl (by decide) _ _ _ rfl (hown.alloc _) ⟨wr.heap.size,0,none⟩ 1 1 (B8 [jY ((m:Int) % 256)]) rfl rfl ?e1 (v8 _) ?e2 ?e3 ?e4 ?_;rotate_right;intro v2 w2 hown2 hg2 _)
     case e1=>first|exact j4w (by rw[zf (by omega) (by omega)];rfl)|(intro j u hu;rw[zf (by omega) (by omega)]at hu;exact hu)
     case e2=>first|omega|(simp;omega)|(simp;done)
     case e3=>first|omega|(simp;omega)|(simp;done)
     case e4=>first|omega|(simp;omega)|(simp;done)
     have hnew:(p++[jY ((m:Int) % 256)])++be k' n=be (s+1) n:=by
      rw[← HP.out,jIj k' n m (by rw[HM.out,HJ.out])];simp
     go_roundw
     case rel=>exact ⟨k',p++[jY ((m:Int) % 256)],by
       rcases Nat.eq_zero_or_pos k' with h0|h0
       ·exact .inl ⟨h0,by subst h0;rfl⟩
       ·exact .inr ⟨k' - 1,by omega,by go_num⟩,by omega,hnew,by have:=HPL.out;simp only[List.length_append,List.length_cons,List.length_nil];omega,by simpa [jq,List.append_assoc,Nat.add_assoc] using hown2,(hk.alloc _).grown hg2 (qq hown)⟩
     case measure=>simp[intOf]
def j1g (l:List UInt8) (x:Nat):List UInt8:=l++[jY ((x:Int) % 256)]
def j3a (l:List UInt8) (x:Nat):List UInt8:=l++[jY ((x:Int) % 65536 / 256),jY ((x:Int) % 65536 % 256)]
def j2r (l:List UInt8) (x:Nat):List UInt8:=l++[jY ((x:Int) / 16777216),jY ((x:Int) / 65536 % 256),jY ((x:Int) / 256 % 256),jY ((x:Int) % 256)]
def vf (l:List UInt8) (x:Nat):List UInt8:=l++ze x
def j0e (l:List UInt8) (s:ByteArray):List UInt8:=l++(jY ((s.size:Int) / 256) :: jY ((s.size:Int) % 256) :: s.data.toList)
theorem jNn (a:Option Addr) (c:Nat) (l:List UInt8) (x:Nat) (w:World) (hr:Row w a (B8 l)) (hn:a=none→l.length=0∧c=0) (hl:l.length≤100000) :
  Calls Tryz.prog 99 #[.slice a l.length c,.int .u8 ((x:Int) % 256)] w (Lays w (j1g l x)):=j67 a c l _ w (by omega) (by omega) hr hn (by omega)
theorem jP5 (a:Option Addr) (c:Nat) (l:List UInt8) (x:Nat) (w:World) (hr:Row w a (B8 l)) (hn:a=none→l.length=0∧c=0) (hl:l.length≤100000) :
  Calls Tryz.prog 145 #[.slice a l.length c,.int .u16 ((x:Int) % 65536)] w (Lays w (j3a l x)):=jDr a c l _ w (by omega) (by omega) hr hn (by omega)
theorem jOk (a:Option Addr) (c:Nat) (l:List UInt8) (x:Nat) (w:World) (hx:x≤4294967295) (hr:Row w a (B8 l)) (hn:a=none→l.length=0∧c=0) (hl:l.length≤100000) :
  Calls Tryz.prog 197 #[.slice a l.length c,.int .u32 x] w (Lays w (j2r l x)):=jGv a c l _ w (by omega) (by omega) hr hn (by omega)
theorem jOx (a:Option Addr) (c:Nat) (l:List UInt8) (x:Nat) (w:World) (hx:x≤4294967295) (hr:Row w a (B8 l)) (hn:a=none→l.length=0∧c=0) (hl:l.length≤100000) :
  Calls Tryz.prog 101 #[.slice a l.length c,.int .u32 x] w (Lays w (vf l x)):=by
 unfold vf ze
 by_cases h:x≤268435455
 ·rw[if_pos h];exact jDt a c l x w h hr hn (by omega)
 ·rw[if_neg h,List.append_nil];exact j8o a c l x w (by omega) (by omega) hr hn (by omega)
theorem jIk (a:Option Addr) (c:Nat) (l:List UInt8) (s:ByteArray) (w:World) (hs:s.size≤65535) (hr:Row w a (B8 l)) (hn:a=none→l.length=0∧c=0) (hl:l.length≤100000) :
  Calls Tryz.prog 176 #[.slice a l.length c,.string s] w (Lays w (j0e l s)):=jCx a c l s w hs hr hn (by omega)
theorem jIi (x:Nat) (h:x≤4294967295):be (3+1) x=[jY ((x:Int) / 16777216),jY ((x:Int) / 65536 % 256),jY ((x:Int) / 256 % 256),jY ((x:Int) % 256)]:=by
 simp only[be,Nat.pow_zero,Nat.div_one,Nat.pow_one];have e2:(256:Nat) ^ 2=65536:=by decide
 have e3:(256:Nat) ^ 3=16777216:=by decide
 rw[e2,e3,show (((x / 16777216:Nat):Int) % 256)=(x:Int) / 16777216 by omega,show (((x / 65536:Nat):Int) % 256)=(x:Int) / 65536 % 256 by omega,show (((x / 256:Nat):Int) % 256)=(x:Int) / 256 % 256 by omega]
theorem jFd (x:Nat) (h:x≤65535):be (1+1) x=[jY ((x:Int) / 256),jY ((x:Int) % 256)]:=by
 simp only[be,Nat.pow_zero,Nat.div_one,Nat.pow_one];rw[show (((x / 256:Nat):Int) % 256)=(x:Int) / 256 by omega]
theorem jHm (a:Option Addr) (c:Nat) (l:List UInt8) (x:Nat) (w:World) (hx:x≤4294967295) (hr:Row w a (B8 l)) (hn:a=none→l.length=0∧c=0) (hl:l.length≤100000) :
  Calls Tryz.prog 55 #[.slice a l.length c,.int .u32 x] w (Lays w (vf l x)):=by
 unfold vf ze
 by_cases h:x≤268435455
 ·rw[if_pos h];exact jB1 a c l x w h hr (λh=>(hn h).2) (by omega)
 ·rw[if_neg h,List.append_nil];exact j7r a c l x w (by omega) (by omega) hr (λh=>(hn h).2) (by omega)
set_option maxRecDepth 100000 in
theorem xV (a:Option Addr) (c:Nat) (l:List UInt8) (s:ByteArray) (w:World) (hs:s.size≤65535) (hr:Row w a (B8 l)) (hn:a=none→l.length=0∧c=0) (hl:l.length≤100000) :
  Calls Tryz.prog 68 #[.slice a l.length c,.string s] w (Lays w (j0e l s)):=by
 obtain ⟨i0,hi,hz0,hz1,hz2⟩:=info_parts qi;have hm:maxLen=9223372036854775807:=rfl;have hN:=λwx (h:Row wx a (B8 l))=>j0q a c l s.size 2 1 (by omega) wx (by omega) (by omega) h (λh=>(hn h).2) (by omega)
 have hq:j0e l s=(l++be (1+1) s.size)++s.data.toList:=by unfold j0e;rw[jFd _ hs];simp
 have hlen:(l++be (1+1) s.size).length≤100002∧0<(l++be (1+1) s.size).length:=by rw[List.length_append,jBp];omega
 rw[hq];clear hq;generalize l++be (1+1) s.size=L at *;have HN:=Lib.hid hN;clear hN;have hsI:(s.size:Int)≤65535:=by omega
 go_enter Tryz.func68,Tryz.ntmps68
 go_wp2_with (first
  | (go_at_call 69;refine (HN.out _ hr).mono ?_;rintro e w1 ⟨g,cap,rfl,hg,hown1,hk1⟩)
  | (at_builtin;refine Lib.wpList_append_own_string _ rfl _ _ _ _ rfl w.heap.size 5 i0 Tryz.underlying25 Tryz.underlying9 hi hz0 hz1 hz2 _ _ _ rfl hown1 s rfl ?f1 ?f2 ?f3 ?_;rotate_right;intro v3 w3 hown3 hg3 hv3))
 case f1=>omega
 case f2=>omega
 case f3=>exact hk1.size
 go_ret
 exact j0y hown3 (by simp) (by simp[jq,B8,Lib.strCells]) (by simp;omega) (hk1.grown hg3 (qq hown1))
end Go.Proofs.YtdeecgmihfakgaaGreatDoor
