import Derived.Test.YtofjhopecfmbcaaGreatDoorChecked
import Derived.Test.YtofjhopecfmbcaaGreatDoorBase
import Derived.Laws.IdiomStrings
import Derived.Lib.BufferRead
import Derived.Deep.QuietTactic
import Derived.BigQuiet
namespace Go.Proofs.YtofjhopecfmbcaaGreatDoor
open Go.RowKit
set_option linter.unusedVariables false
set_option linter.unusedSimpArgs false
set_option maxRecDepth 100000
theorem info_u8:(Tryz.prog.info? 5).map (fun i=>(i.zero,i.size,i.bytes))=some (some (.int .u8 0),1,1):=by kernel_rfl
def Lays (w:World) (l:List UInt8) (e:Ending) (w':World):Prop :=
 ∃ g cap,e=.returned (.slice (some ⟨g,0,none⟩) l.length cap)∧w.heap.size≤g∧w'.ownsRow w.heap.size 5 1 (.slice (some ⟨g,0,none⟩) l.length cap) l.length (B8 l)∧Kept No w w'
theorem lays_not {w w':World} {v:Value} {l:List UInt8} {n:Nat} {xs:List Value} (h:w'.ownsRow w.heap.size 5 1 v n xs) (hn:n=l.length) (hx:xs=B8 l) (h0:v≠.slice none 0 0) (hk:Kept No w w'):Lays w l (.returned v) w':=by
 subst hn hx;rcases h.2 with ⟨hv,_⟩|⟨g,cap,cur,hv,hg,_⟩
 ·exact absurd hv h0
 ·subst hv;exact ⟨g,cap,rfl,hg,h,hk⟩
set_option maxHeartbeats 400000 in
theorem grown_any (a:Option Addr) (c:Nat) (l:List UInt8) (room:Int) (w:World) (h0:0≤room) (hr:Row w a (B8 l)) (hn:a=none→l.length=0∧c=0) (hl:l.length+room≤140737488355328) :
  Calls Tryz.prog 70 #[.slice a l.length c,.int .i64 room] w fun e w' =>
   ∃ g,e=.returned (.slice (some ⟨g,0,none⟩) l.length (l.length+room.toNat))∧w.heap.size≤g∧w'.ownsRow w.heap.size 5 1 (.slice (some ⟨g,0,none⟩) l.length (l.length+room.toNat)) l.length (B8 l)∧Kept No w w':=by
 obtain ⟨i0,hi,hz0,hz1,hz2⟩:=info_parts info_u8;have hm:maxLen=9223372036854775807:=rfl;obtain ⟨room,rfl⟩:=Int.eq_ofNat_of_zero_le h0;rw[Int.toNat_natCast]
 go_enter Tryz.func70,Tryz.ntmps70
 go_wp2_with (first
  | (at_make;refine wpList_make_own _ rfl _ _ _ rfl w.heap.size 5 i0 _ 1 Tryz.underlying29 hi hz0 hz1 .i64 .i64 _ (l.length+room) rfl rfl ?c1 ?c2 ?c3 (Nat.le_refl _) ?_;rotate_right;intro w1 hown1 hg1)
  | (at_builtin;refine wpList_append_fits_any _ rfl _ _ _ rfl w.heap.size 5 i0 1 Tryz.underlying29 hi hz1 _ 0 _ [] rfl hown1 a l.length c (B8 l) rfl ?d1 hn ?d2 (B8_one l) ?d3 ?_;rotate_right;intro w2 hown2 hg2))
 case c1=>omega
 case c2=>rw[hz2];omega
 case c3=>omega
 case d1=>simp
 case d2=>exact (hr.keptNo ((Kept.refl No w).grown hg1 (by simp))).at_add
 case d3=>omega
 go_ret
 exact ⟨_,by simp,Nat.le_refl _,by simpa using hown2,((Kept.refl No w).grown hg1 (by simp)).grown hg2 (by simp)⟩
theorem varsize_any (n:Int) (w:World) (h0:0≤n) (h1:n < 4294967296) :
  Calls Tryz.prog 164 #[.int .u32 n] w fun e w' =>
   e=.returned (.int .i64 (if n < 128 then 1 else if n < 16384 then 2 else if n < 2097152 then 3 else if n < 268435456 then 4 else 0))∧w=w':=by
 rcases (show n < 128∨(128≤n∧n < 16384)∨(16384≤n∧n < 2097152)∨(2097152≤n∧n < 268435456)∨268435456≤n from by omega) with h|⟨h,h'⟩|⟨h,h'⟩|⟨h,h'⟩|h
 all_goals
  go_enter Tryz.func164,Tryz.ntmps164
  go_wp2
  refine wp_loop_rounds 5 ?_
  repeat (rw[rounds_succ];go_wp2)
  go_ret
  refine ⟨?_,rfl⟩
  congr 2
  repeat (first|rw[if_pos (by omega)]|rw[if_neg (by omega)])
def var7 (n:Nat):List UInt8:=if n < 128 then [byteOf n] else byteOf ((n:Int) % 128+128) :: var7 (n / 128)
termination_by n
decreasing_by omega
theorem var7_lt {n:Nat} (h:n < 128):var7 n=[byteOf n]:=by rw[var7,if_pos h]
theorem var7_ge {n:Nat} (h:¬ n < 128):var7 n=byteOf ((n:Int) % 128+128) :: var7 (n / 128):=by rw[var7,if_neg h]
theorem row_str {P:Program} {w:World} (src dst e:TypeId) (hs:P.underlying src=some (.slice e)) (he:P.underlying e=some (.int .u8)) (hd:P.underlying dst=some .string)
  {a:Option Addr} {l:List UInt8} (h:Row w a (B8 l)) (cap:Nat) (hn:a=none→cap=0):(convert src dst (.slice a l.length cap)).run P w=.ok (.string ⟨l.toArray⟩) w:=by
 cases a with
 | none =>
  obtain rfl:=hn rfl;rcases h with h|⟨b,off,h,_⟩
  ·obtain rfl:l=[]:=by cases l<;>simp_all [B8]
   exact Lib.run_convert_nil_bytes w src dst e 0 hs he hd
  ·cases h
 | some ad=>exact run_convert_bytes_back w src dst e ad cap l hs he hd fun j hj=>h.at_add ad rfl j _ (B8_get l j hj)
def Typ (w:World) (a:Option Addr) (l:List UInt8):Prop:=∀ b off,a=some ⟨b,off,none⟩→l≠[]→∃ cs fz,w.heap[b]?=some (.cells cs 5 fz)
theorem Typ.nil (w:World) (a:Option Addr):Typ w a []:=fun _ _ _ h=>absurd rfl h
theorem Typ.kept {w w':World} {S:Nat→Prop} {a:Option Addr} {l:List UInt8} (h:Typ w a l) (hk:Kept S w w') (hS:∀ b off,a=some ⟨b,off,none⟩→l≠[]→¬ S b):Typ w' a l:=by
 intro b off ha hl;obtain ⟨cs,fz,hb⟩:=h b off ha hl;exact ⟨cs,fz,(hk.block b (Array.getElem?_eq_some_iff.1 hb).1 (hS b off ha hl)).trans hb⟩
def Rdr (w:World) (r:Nat) (l:List UInt8) (err:Int):Prop :=
 ∃ a c,Blk w r 130 #[.slice a l.length c,.int .i64 err]∧l.length≤c∧(a=none→c=0)∧Row w a (B8 l)∧l.length≤140737000000000∧(err≠0→l=[])∧Typ w a l
theorem Rdr.lt {w:World} {r:Nat} {l:List UInt8} {err:Int} (h:Rdr w r l err):r < w.heap.size:=by obtain ⟨a,c,hb,_⟩:=h;exact hb.lt
theorem blk_row_ne {w:World} {r b off:Nat} {t:TypeId} {x y:Value} {l:List UInt8} (hb:Blk w r t #[x,y]) (hx:∀ n,x≠.int .u8 n) (hy:∀ n,y≠.int .u8 n) (h:Row w (some ⟨b,off,none⟩) (B8 l)) (hl:B8 l≠[]):b≠r:=by
 rintro rfl;rcases h with h|⟨b',off',h,_,hc⟩
 ·exact hl h
 ·injection h with h
  injection h with h1 h2;subst h1 h2;cases l with
  | nil=>exact hl rfl
  | cons u l =>
   have:=hc 0 _ rfl
   rw[hb.cell]at this
   match off,this with
   | 0,this=>exact hx _ (by simpa using this)
   | 1,this=>exact hy _ (by simpa using this)
   | k+2,this=>simp at this
theorem row_one {w w':World} {r:Nat} {a:Option Addr} {t:TypeId} {x y:Value} {l:List UInt8} (hb:Blk w r t #[x,y]) (hx:∀ n,x≠.int .u8 n) (hy:∀ n,y≠.int .u8 n) (h:Row w a (B8 l)) (hk:Kept (One r) w w'):Row w' a (B8 l) :=
 h.kept hk fun b off ha hne he=>blk_row_ne hb hx hy (ha▸h) hne he
def NoByte (w:World) (b:Nat):Prop:=∀ off n,w.cell? ⟨b,off,none⟩≠some (.int .u8 n)
theorem NoByte.two {w:World} {b:Nat} {t:TypeId} {x y:Value} (hb:Blk w b t #[x,y]) (hx:∀ n,x≠.int .u8 n) (hy:∀ n,y≠.int .u8 n):NoByte w b:=by
 intro off n h;rw[hb.cell]at h
 match off,h with
 | 0,h=>exact hx _ (by simpa using h)
 | 1,h=>exact hy _ (by simpa using h)
 | k+2,h=>simp at h
theorem NoByte.three {w:World} {b:Nat} {t:TypeId} {x y z:Value} (hb:Blk w b t #[x,y,z]) (hx:∀ n,x≠.int .u8 n) (hy:∀ n,y≠.int .u8 n) (hz:∀ n,z≠.int .u8 n):NoByte w b:=by
 intro off n h;rw[hb.cell]at h
 match off,h with
 | 0,h=>exact hx _ (by simpa using h)
 | 1,h=>exact hy _ (by simpa using h)
 | 2,h=>exact hz _ (by simpa using h)
 | k+3,h=>simp at h
theorem row_nobyte {w w':World} {S:Nat→Prop} {a:Option Addr} {l:List UInt8} (h:Row w a (B8 l)) (hk:Kept S w w') (hs:∀ b,S b→b < w.heap.size→NoByte w b):Row w' a (B8 l):=by
 refine h.kept hk fun b off ha hne hS=>?_
 rcases h with h|⟨b',off',he,hlt,hc⟩
 ·exact hne h
 ·rw[ha]at he
  injection he with he;injection he with e1 e2;subst e1 e2;cases l with
  | nil=>exact hne rfl
  | cons u l=>exact hs b hS hlt off _ (hc 0 _ rfl)
theorem row_notS {w:World} {S:Nat→Prop} {a:Option Addr} {l:List UInt8} (h:Row w a (B8 l)) (hs:∀ b,S b→b < w.heap.size→NoByte w b):∀ b off,a=some ⟨b,off,none⟩→l≠[]→¬ S b:=by
 intro b off ha hl hS;rcases h with h|⟨b',off',he,hlt,hc⟩
 ·cases l with
  | nil=>exact hl rfl
  | cons u l=>simp[B8]at h
 ·rw[ha]at he
  injection he with he;injection he with e1 e2;subst e1 e2;cases l with
  | nil=>exact hl rfl
  | cons u l=>exact hs b hS hlt off _ (hc 0 _ rfl)
theorem Rdr.kept {w w':World} {S:Nat→Prop} {r:Nat} {l:List UInt8} {err:Int} (h:Rdr w r l err) (hk:Kept S w w') (hr:¬ S r) (hs:∀ b,S b→b < w.heap.size→NoByte w b):Rdr w' r l err:=by
 obtain ⟨a,c,hb,h1,h2,h3,h4,h5,h6⟩:=h;exact ⟨a,c,hb.kept hk hr,h1,h2,row_nobyte h3 hk hs,h4,h5,h6.kept hk (row_notS h3 hs)⟩
theorem Rdr.keptTyp {w w':World} {S:Nat→Prop} {r:Nat} {l:List UInt8} {err:Int} (h:Rdr w r l err) (hk:Kept S w w') (hr:¬ S r) (hs:∀ b,S b→∀ cs fz,w.heap[b]?≠some (.cells cs 5 fz)):Rdr w' r l err:=by
 obtain ⟨a,c,hb,h1,h2,h3,h4,h5,h6⟩:=h
 have hn:∀ b off,a=some ⟨b,off,none⟩→l≠[]→¬ S b:=fun b off ha hl hS=>by
  obtain ⟨cs,fz,hx⟩:=h6 b off ha hl;exact hs b hS cs fz hx
 exact ⟨a,c,hb.kept hk hr,h1,h2,h3.kept hk (fun b off ha hx=>hn b off ha (fun e=>hx (by rw[e];rfl))),h4,h5,h6.kept hk hn⟩
theorem Rdr.setOther {w:World} {r:Nat} {l:List UInt8} {err:Int} (h:Rdr w r l err) {q i:Nat} {t:TypeId} {cs:Array Value} (hq:Blk w q t cs) (ht:t≠5) (hr:r≠q) (u:Value):Rdr (w.setCell ⟨q,i,none⟩ u) r l err :=
 h.keptTyp ((Kept.refl (One q) w).setCell (p:=⟨q,i,none⟩) (.inr rfl) u) hr (fun b hb cs' fz hx=>by
  obtain rfl:b=q:=hb;unfold Blk at hq;rw[hq]at hx;injection hx with hx;injection hx with _ h2 _;exact ht h2)
theorem Rdr.noByte {w:World} {r:Nat} {l:List UInt8} {err:Int} (h:Rdr w r l err):NoByte w r:=by
 obtain ⟨a,c,hb,_⟩:=h;exact NoByte.two hb (by simp) (by simp)
theorem Rdr.keptNo {w w':World} {r:Nat} {l:List UInt8} {err:Int} (h:Rdr w r l err) (hk:Kept No w w'):Rdr w' r l err:=h.kept hk (fun f=>f) (fun _ f=>f.elim)
theorem Rdr.cells {w:World} {r:Nat} {l:List UInt8} {err:Int} (h:Rdr w r l err) :
  ∃ a c,w.cell? ⟨r,0,none⟩=some (.slice a l.length c)∧w.cell? ⟨r,1,none⟩=some (.int .i64 err)∧w.frozen? ⟨r,0,none⟩=false∧w.frozen? ⟨r,1,none⟩=false:=by
 obtain ⟨a,c,hb,_⟩:=h;exact ⟨a,c,by rw[hb.cell];rfl,by rw[hb.cell];rfl,hb.frozen 0,hb.frozen 1⟩
theorem Rdr.setErr {w:World} {r:Nat} {l:List UInt8} {err:Int} (h:Rdr w r l err) (e:Int) (he:e≠0→l=[]):Rdr (w.setCell ⟨r,1,none⟩ (.int .i64 e)) r l e:=by
 obtain ⟨a,c,hb,h1,h2,h3,h4,h5,h6⟩:=h;have hk:Kept (One r) w (w.setCell ⟨r,1,none⟩ (.int .i64 e)):=(Kept.refl (One r) w).setCell (p:=⟨r,1,none⟩) (.inr rfl) _;exact ⟨a,c,by simpa using hb.set_ 1 (.int .i64 e),h1,h2,row_one hb (by simp) (by simp) h3 hk,h4,he,h6.kept hk (row_notS h3 fun b hS _=>by have e:b=r:=hS;rw[e];exact NoByte.two hb (by simp) (by simp))⟩
theorem Rdr.far {w:World} {r s:Nat} {l:List UInt8} {err:Int} (h:Rdr w r l err) {l':List UInt8} {err':Int} (hs:Rdr w s l' err') (hne:r≠s) (p:Addr) (hp:p.block=s) (v:Value):Rdr (w.setCell p v) r l err :=
 h.kept ((Kept.refl (One s) w).setCell (.inr hp) _) hne fun b hb _=>by
  obtain rfl:b=s:=hb;exact hs.noByte
theorem row_none {w:World} {a:Option Addr} {l:List UInt8} {c:Nat} (h:Row w a (B8 l)) (hc:a=none→c=0):a=none→l.length=0∧c=0:=by
 intro ha;rcases h with h|⟨b,off,h,_⟩
 ·exact ⟨by cases l<;>simp_all [B8],hc ha⟩
 ·rw[ha]at h;cases h
theorem err_any (w:World) (r:Nat) (l:List UInt8) (err:Int) (h:Rdr w r l err):Calls Tryz.prog 52 #[.pointer (some ⟨r,0,none⟩)] w fun e w'=>e=.returned (.int .i64 err)∧w=w':=by
 obtain ⟨a,c,hb,h1,h2,h3,h4,h5⟩:=h;have c0:=hb.cell 0;have c1:=hb.cell 1;simp at c0 c1
 go_enter Tryz.func52,Tryz.ntmps52
 go_wp2
 go_ret
 exact ⟨rfl,rfl⟩
theorem left_any (w:World) (r:Nat) (l:List UInt8) (err:Int) (h:Rdr w r l err):Calls Tryz.prog 53 #[.pointer (some ⟨r,0,none⟩)] w fun e w'=>e=.returned (.int .i64 l.length)∧w=w':=by
 obtain ⟨a,c,hb,h1,h2,h3,h4,h5⟩:=h;have c0:=hb.cell 0;have c1:=hb.cell 1;simp at c0 c1
 go_enter Tryz.func53,Tryz.ntmps53
 go_wp2
 go_ret
 exact ⟨rfl,rfl⟩
def Stay (w w':World) (r:Nat):Prop:=∀ b o n c,w'.cell? ⟨r,0,none⟩=some (.slice (some ⟨b,o,none⟩) n c)→n≠0→∃ o' n' c',w.cell? ⟨r,0,none⟩=some (.slice (some ⟨b,o',none⟩) n' c')∧n'≠0
theorem Stay.same {w w':World} {r:Nat} (h:w'.cell? ⟨r,0,none⟩=w.cell? ⟨r,0,none⟩):Stay w w' r:=fun b o n c h1 h2=>⟨o,n,c,by rw[← h,h1],h2⟩
theorem Stay.trans {w w' w'':World} {r:Nat} (h:Stay w w' r) (k:Stay w' w'' r):Stay w w'' r:=fun b o n c h1 h2=>by
 obtain ⟨o1,n1,c1,e1,e2⟩:=k b o n c h1 h2;exact h b o1 n1 c1 e1 e2
theorem Rdr.stay {w w':World} {r:Nat} {e:Int} (h:Rdr w' r [] e):Stay w w' r:=fun b o n c h1 h2=>by
 obtain ⟨a,k,q,_⟩:=h.cells;rw[q]at h1;injection h1 with h1;injection h1 with _ h3;exact absurd h3.symm h2
theorem fail_any (w:World) (r:Nat) (l:List UInt8) (err:Int) (x:Int) (h:Rdr w r l err) :
  Calls Tryz.prog 72 #[.pointer (some ⟨r,0,none⟩),.int .i64 x] w fun e w'=>e=.returned (.tuple #[])∧Rdr w' r [] x∧Kept (One r) w w':=by
 obtain ⟨a,c,hb,h1,h2,h3,h4,h5⟩:=h;have c0:=hb.cell 0;have c1:=hb.cell 1;have f0:=hb.frozen 0;have f1:=hb.frozen 1;simp at c0 c1
 go_enter Tryz.func72,Tryz.ntmps72
 go_wp2
 go_end0
 have hb':=(hb.set_ 0 (.slice none 0 0)).set_ 1 (.int .i64 x);refine ⟨rfl,⟨none,0,by simpa using hb',by simp,by simp,Row.nil _ _,by simp,by simp,Typ.nil _ _⟩,((Kept.refl (One r) w).setCell (p:=⟨r,0,none⟩) (.inr rfl) _).setCell (p:=⟨r,1,none⟩) (.inr rfl) _⟩
theorem take_bad (w:World) (r:Nat) (l:List UInt8) (err n:Int) (h:Rdr w r l err) (he:err≠0) :
  Calls Tryz.prog 98 #[.pointer (some ⟨r,0,none⟩),.int .i64 n] w fun e w'=>e=.returned (.slice none 0 0)∧w=w':=by
 have hne:(err != 0)=true:=by simpa using he
 go_enter Tryz.func98,Tryz.ntmps98
 go_wp2_with (go_at_call 52;refine (err_any _ r l err h).mono ?_;rintro e w1 ⟨rfl,rfl⟩)
 go_ret
 exact ⟨rfl,rfl⟩
theorem take_short (w:World) (r:Nat) (l:List UInt8) (n:Int) (h:Rdr w r l 0) (hn:n < 0∨(l.length:Int) < n) :
  Calls Tryz.prog 98 #[.pointer (some ⟨r,0,none⟩),.int .i64 n] w fun e w'=>e=.returned (.slice none 0 0)∧Rdr w' r [] 2∧Kept (One r) w w':=by
 have hf:=fail_any w r l 0 2 h;have he:=err_any w r l 0 h;obtain ⟨a,c,hb,h1,h2,h3,h4,h5⟩:=h;have c0:=hb.cell 0;have c1:=hb.cell 1;simp at c0 c1;have HF:=Lib.hid hf;have HE:=Lib.hid he;clear hf he h2 h5;rcases hn with hn|hn
 all_goals
  go_enter Tryz.func98,Tryz.ntmps98
  go_wp2_with (first
   | (go_at_call 52;refine HE.out.mono ?_;rintro e w1 ⟨rfl,rfl⟩)
   | (go_at_call 72;refine HF.out.mono ?_;rintro e w1 ⟨rfl,hr1,hk1⟩))
  go_ret
  exact ⟨rfl,hr1,hk1⟩
theorem take_ok (w:World) (r:Nat) (l:List UInt8) (n:Int) (h:Rdr w r l 0) (hn:0≤n) (hl:n≤l.length) :
  Calls Tryz.prog 98 #[.pointer (some ⟨r,0,none⟩),.int .i64 n] w fun e w' =>
   ∃ a c,e=.returned (.slice a (l.take n.toNat).length c)∧Row w' a (B8 (l.take n.toNat))∧(a=none→c=0)∧Rdr w' r (l.drop n.toNat) 0∧Kept (One r) w w'∧Stay w w' r:=by
 have he:=err_any w r l 0 h;obtain ⟨a,c,hb,h1,h2,h3,h4,h5,h6⟩:=h;have h6':=Lib.hid (fun w' (hk:Kept (One r) w w')=>h6.kept hk (row_notS h3 fun b hS _=>by have e:b=r:=hS;rw[e];exact NoByte.two hb (by simp) (by simp)));clear h6;have c0:=hb.cell 0;have c1:=hb.cell 1;have f0:=hb.frozen 0;simp at c0 c1;have HE:=Lib.hid he;have H2:=Lib.hid h2;clear he h2 h5;obtain ⟨n,rfl⟩:=Int.eq_ofNat_of_zero_le hn;rw[Int.toNat_natCast]
 go_enter Tryz.func98,Tryz.ntmps98
 go_wp2_with (first
  | (go_at_call 52;refine HE.out.mono ?_;rintro e w1 ⟨rfl,rfl⟩))
 all_goals go_ret
 ·subst h
  have hk:Kept (One r) w (w.setCell ⟨r,0,none⟩ (.slice a (l.length - c) 0)):=(Kept.refl (One r) w).setCell (p:=⟨r,0,none⟩) (.inr rfl) _;have h3':=row_one hb (by simp) (by simp) h3 hk;have e0:l.drop c=[]:=List.drop_eq_nil_of_le (by omega);have e1:l.take c=l:=List.take_of_length_le (by omega);have e2:l.length=c:=by omega
  rw[e1];refine ⟨a,c,by simp[e2],h3',H2.out,⟨a,0,?_,by simp[e0],by simp,by rw[e0];exact Row.nil _ _,by simp[e0],by simp,by rw[e0];exact Typ.nil _ _⟩,hk,fun b o k9 c9 h1 h2=>?_⟩
  rotate_left
  ·have h9:=(hb.set_ 0 (.slice a (l.length - c) 0)).cell 0
   simp at h9;rw[h9]at h1;injection h1 with h1;injection h1 with e9 e8;omega
  have:=hb.set_ 0 (.slice a (l.length - c) 0)
  simpa [e0,e2] using this
 ·have hk:Kept (One r) w (w.setCell ⟨r,0,none⟩ (.slice (Option.map (fun x=>x.add n) a) (l.length - n) (c - n))):=(Kept.refl (One r) w).setCell (p:=⟨r,0,none⟩) (.inr rfl) _
  have h3':=row_one hb (by simp) (by simp) h3 hk;refine ⟨a,c,by simp;omega,by rw[B8_take];exact h3'.take n,H2.out,⟨Option.map (fun x=>x.add n) a,c - n,?_,by simp;omega,?_,?_,by simp;omega,by simp,?_⟩,hk,fun b o k9 c9 h1 h2=>?_⟩
  rotate_left 4
  ·have h9:=(hb.set_ 0 (.slice (Option.map (fun x=>x.add n) a) (l.length - n) (c - n))).cell 0
   simp at h9;rw[h9]at h1;injection h1 with h1;injection h1 with e9 e8;rcases h3 with h9|⟨b9,o9,ha9,_,_⟩
   ·have:l=[]:=by cases l<;>simp_all [B8]
    subst this;simp at e8;omega
   ·subst ha9
    refine ⟨o9,l.length,c,?_,by omega⟩;rw[c0];simp only[Option.map_some,Addr.add]at e9
    split at e9
    ·injection e9 with e9;injection e9 with q1;rw[q1]
    ·injection e9 with e9;injection e9 with q1;rw[q1]
  ·have:=hb.set_ 0 (.slice (Option.map (fun x=>x.add n) a) (l.length - n) (c - n))
   simpa using this
  ·intro hna
   have:=H2.out (by simpa using hna)
   omega
  ·have:=h3'.drop (k:=n) (cap:=c) (by simpa using h1)
   rw[if_neg h]at this;rw[B8_drop];exact this
  ·intro b off hao hne
   have hl9:l≠[]:=fun e=>hne (by rw[e];simp)
   rcases h3' with h9|⟨b9,off9,ha9,hb9,_⟩
   ·exact absurd h9 (by cases l<;>simp_all [B8])
   ·refine h6'.out _ hk b off9 ?_ hl9
    rw[ha9]at hao ⊢;simp only[Option.map_some,Addr.add]at hao
    split at hao
    ·subst_vars;injection hao with hao;injection hao with e1 e2;rw[e1]
    ·injection hao with hao;injection hao with e1 e2;rw[e1]
def taken (n:Int) (l:List UInt8) (err:Int):List UInt8:=if err=0∧0≤n∧n≤l.length then l.take n.toNat else []
def leftL (n:Int) (l:List UInt8) (err:Int):List UInt8:=if err=0 then (if 0≤n∧n≤l.length then l.drop n.toNat else []) else l
def leftE (n:Int) (l:List UInt8) (err:Int):Int:=if err=0 then (if 0≤n∧n≤l.length then 0 else 2) else err
theorem taken_le (n:Int) (l:List UInt8) (err:Int):(taken n l err).length≤n.toNat:=by unfold taken;split<;>simp;omega
structure After (w w':World) (r:Nat) (l:List UInt8) (err:Int):Prop where
 rdr:Rdr w' r l err
 kept:Kept (One r) w w'
 stay:Stay w w' r
theorem take_any (w:World) (r:Nat) (l:List UInt8) (err n:Int) (h:Rdr w r l err) :
  Calls Tryz.prog 98 #[.pointer (some ⟨r,0,none⟩),.int .i64 n] w fun e w' =>
   ∃ a c,e=.returned (.slice a (taken n l err).length c)∧Row w' a (B8 (taken n l err))∧(a=none→c=0)∧After w w' r (leftL n l err) (leftE n l err):=by
 by_cases he:err=0
 ·subst he
  by_cases hn:0≤n∧n≤l.length
  ·have e1:taken n l 0=l.take n.toNat:=by simp[taken,hn]
   have e2:leftL n l 0=l.drop n.toNat:=by simp[leftL,hn]
   have e3:leftE n l 0=0:=by simp[leftE,hn]
   rw[e1,e2,e3];exact (take_ok w r l n h hn.1 hn.2).mono fun e w' ⟨a,c,h1,h2,h3,h4,h5,h6⟩=>⟨a,c,h1,h2,h3,h4,h5,h6⟩
  ·have e1:taken n l 0=[]:=by simp[taken,hn]
   have e2:leftL n l 0=[]:=by simp[leftL,hn]
   have e3:leftE n l 0=2:=by simp[leftE,hn]
   rw[e1,e2,e3];exact (take_short w r l n h (by omega)).mono fun e w' ⟨h1,h4,h5⟩=>⟨none,0,h1,Row.nil _ _,fun _=>rfl,h4,h5,h4.stay⟩
 ·have e1:taken n l err=[]:=by simp[taken,he]
  have e2:leftL n l err=l:=by simp[leftL,he]
  have e3:leftE n l err=err:=by simp[leftE,he]
  rw[e1,e2,e3];refine (take_bad w r l err n h he).mono fun e w' ⟨h1,h2⟩=>?_
  subst h2;exact ⟨none,0,h1,Row.nil _ _,fun _=>rfl,h,Kept.refl _ _,.same rfl⟩
def num (l:List UInt8):Nat:=l.foldl (fun n c=>n * 256+c.toNat) 0
theorem num_snoc (l:List UInt8) (c:UInt8):num (l++[c])=num l * 256+c.toNat:=by simp[num]
theorem num_lt (l:List UInt8):num l < 256 ^ l.length:=by
 have key:∀ (m:Nat) (l:List UInt8),l.length=m→num l < 256 ^ l.length:=by
  intro m
  induction m with
  | zero=>intro l h;have:l=[]:=List.eq_nil_of_length_eq_zero h;subst this;decide
  | succ m ih =>
   intro l h;have hne:l≠[]:=by rintro rfl;simp at h
   have e:l.dropLast++[l.getLast hne]=l:=List.dropLast_concat_getLast hne;rw[← e,num_snoc];have h1:=ih l.dropLast (by simp[h]);have h2:=byte_lt (l.getLast hne);simp only[List.length_append,List.length_singleton,Nat.pow_succ];omega
 exact key _ l rfl
theorem num_take_succ (l:List UInt8) (k:Nat) (h:k < l.length):num (l.take (k+1))=num (l.take k) * 256+l[k].toNat:=by
 rw[List.take_succ_eq_append_getElem h,num_snoc]
set_option maxRecDepth 100000 in
set_option maxHeartbeats 400000 in
theorem wnumber_any (w:World) (r:Nat) (l:List UInt8) (err n:Int) (h:Rdr w r l err) (h0:0≤n) (h4:n≤4) :
  Calls Tryz.prog 71 #[.pointer (some ⟨r,0,none⟩),.int .i64 n] w fun e w' =>
   e=.returned (.int .u32 (num (taken n l err)))∧After w w' r (leftL n l err) (leftE n l err):=by
 have ht:=take_any w r l err n h;have hlen:=taken_le n l err;generalize taken n l err=t at *;generalize leftL n l err=l' at *;generalize leftE n l err=err' at *;have HT:=Lib.hid ht;have hb:t.length≤4:=by omega
 clear ht hlen h
 go_enter Tryz.func71,Tryz.ntmps71
 go_wp2_with (go_at_call 98;refine HT.out.mono ?_;rintro e w1 ⟨a,c,rfl,hr,hc,ha⟩)
 go_loop [5,12] (fun n i=>∃ k:Nat,k≤t.length∧i=.int .i64 k∧n=.int .u32 (num (t.take k))) (fun _ i=>t.length - (intOf i).toNat)
 case atStart=>exact ⟨0,Nat.zero_le _,rfl,rfl⟩
 case round =>
  obtain ⟨k,hk,rfl,rfl⟩:=hrel
  by_cases hlt:k < t.length
  ·obtain ⟨b,off,rfl,hbl,hcell⟩:=hr.at_ (k:=k) (by simpa using hlt)
   have hcc:w1.cell? ⟨b,off+k,none⟩=some (.int .u8 (t[k].toNat:Int)):=by rw[hcell];simp[B8]
   have hs:=num_take_succ t k hlt;have hn:=num_lt (t.take k);have hp:256 ^ (t.take k).length≤256 ^ 3:=Nat.pow_le_pow_right (by decide) (by simp;omega);have hu:=byte_lt t[k];have hq:num (t.take k) < 16777216:=by omega
   have HS:=Lib.hid hs;clear hs hcell hn hp hr;generalize num (t.take k)=q at *
   go_wp2
   go_round
   case rel=>exact ⟨k+1,by omega,by go_num,by rw[HS.out];go_num⟩
   case measure=>simp[intOf];omega
  ·go_wp2
   go_ret
   refine ⟨?_,ha⟩;have e:t.take k=t:=List.take_of_length_le (by omega);rw[e]
   rfl
theorem num_le (n:Int) (l:List UInt8) (err:Int) (k:Nat) (hk:n.toNat≤k):num (taken n l err) < 256 ^ k:=by
 have h1:=num_lt (taken n l err);have h2:=taken_le n l err;have h3:256 ^ (taken n l err).length≤256 ^ k:=Nat.pow_le_pow_right (by decide) (by omega);omega
theorem rbyte_any (w:World) (r:Nat) (l:List UInt8) (err:Int) (h:Rdr w r l err) :
  Calls Tryz.prog 50 #[.pointer (some ⟨r,0,none⟩)] w fun e w' =>
   e=.returned (.int .u8 (num (taken 1 l err)))∧After w w' r (leftL 1 l err) (leftE 1 l err):=by
 have ht:=wnumber_any w r l err 1 h (by omega) (by omega);have hb:=num_le 1 l err 1 (by omega);generalize num (taken 1 l err)=q at *;have HT:=Lib.hid ht;clear ht h
 go_enter Tryz.func50,Tryz.ntmps50
 go_wp2_with (go_at_call 71;refine HT.out.mono ?_;rintro e w1 ⟨rfl,ha⟩)
 go_ret
 exact ⟨rfl,ha⟩
theorem rtwo_any (w:World) (r:Nat) (l:List UInt8) (err:Int) (h:Rdr w r l err) :
  Calls Tryz.prog 102 #[.pointer (some ⟨r,0,none⟩)] w fun e w' =>
   e=.returned (.int .u16 (num (taken 2 l err)))∧After w w' r (leftL 2 l err) (leftE 2 l err):=by
 have ht:=wnumber_any w r l err 2 h (by omega) (by omega);have hb:=num_le 2 l err 2 (by omega);generalize num (taken 2 l err)=q at *;have HT:=Lib.hid ht;clear ht h
 go_enter Tryz.func102,Tryz.ntmps102
 go_wp2_with (go_at_call 71;refine HT.out.mono ?_;rintro e w1 ⟨rfl,ha⟩)
 go_ret
 exact ⟨rfl,ha⟩
theorem rfour_any (w:World) (r:Nat) (l:List UInt8) (err:Int) (h:Rdr w r l err) :
  Calls Tryz.prog 187 #[.pointer (some ⟨r,0,none⟩)] w fun e w' =>
   e=.returned (.int .u32 (num (taken 4 l err)))∧After w w' r (leftL 4 l err) (leftE 4 l err):=by
 have ht:=wnumber_any w r l err 4 h (by omega) (by omega);generalize num (taken 4 l err)=q at *;have HT:=Lib.hid ht;clear ht h
 go_enter Tryz.func187,Tryz.ntmps187
 go_wp2_with (go_at_call 71;refine HT.out.mono ?_;rintro e w1 ⟨rfl,ha⟩)
 go_ret
 exact ⟨rfl,ha⟩
def binTaken (l:List UInt8) (err:Int):List UInt8:=taken (num (taken 2 l err)) (leftL 2 l err) (leftE 2 l err)
def binL (l:List UInt8) (err:Int):List UInt8:=leftL (num (taken 2 l err)) (leftL 2 l err) (leftE 2 l err)
def binE (l:List UInt8) (err:Int):Int:=leftE (num (taken 2 l err)) (leftL 2 l err) (leftE 2 l err)
theorem rbin_any (w:World) (r:Nat) (l:List UInt8) (err:Int) (h:Rdr w r l err) :
  Calls Tryz.prog 135 #[.pointer (some ⟨r,0,none⟩)] w fun e w' =>
   e=.returned (.string ⟨(binTaken l err).toArray⟩)∧After w w' r (binL l err) (binE l err):=by
 have ht:=rtwo_any w r l err h;have ht2:=fun w1 (hr:Rdr w1 r (leftL 2 l err) (leftE 2 l err))=>take_any w1 r (leftL 2 l err) (leftE 2 l err) (num (taken 2 l err)) hr
 unfold binTaken binL binE;have hb:=num_le 2 l err 2 (by omega);generalize num (taken 2 l err)=q at *;generalize leftL 2 l err=l1 at *;generalize leftE 2 l err=e1 at *;generalize taken q l1 e1=t at *;generalize leftL q l1 e1=l2 at *;generalize leftE q l1 e1=e2 at *;have HT:=Lib.hid ht;have HT2:=Lib.hid ht2;clear ht ht2 h
 go_enter Tryz.func135,Tryz.ntmps135
 go_wp2_with (first
  | (go_at_call 102;refine HT.out.mono ?_;rintro e w1 ⟨rfl,ha⟩)
  | (go_at_call 98;refine (HT2.out _ ha.rdr).mono ?_;rintro e w2 ⟨a,c,rfl,hr,hc,ha2⟩;have hcv:=row_str (P:=Tryz.prog) 29 9 5 Tryz.underlying29 Tryz.underlying5 Tryz.underlying9 hr c hc))
 go_ret
 exact ⟨rfl,ha2.rdr,ha.kept.trans ha2.kept,ha.stay.trans ha2.stay⟩
theorem rrest_any (w:World) (r:Nat) (l:List UInt8) (err:Int) (h:Rdr w r l err) :
  Calls Tryz.prog 106 #[.pointer (some ⟨r,0,none⟩)] w fun e w' =>
   e=.returned (.string ⟨l.toArray⟩)∧After w w' r [] err:=by
 have hl:=left_any w r l err h;have ht:=take_any w r l err l.length h;have hln:l.length≤140737000000000:=by obtain ⟨a,c,_,_,_,_,h4,_⟩:=h;exact h4
 have h5:err≠0→l=[]:=by obtain ⟨a,c,_,_,_,_,_,h5,_⟩:=h;exact h5
 have e1:taken l.length l err=l:=by
  unfold taken
  by_cases he:err=0
  ·simp[he]
  ·simp[h5 he]
 have e2:leftL l.length l err=[]:=by
  unfold leftL
  by_cases he:err=0
  ·simp[he]
  ·simp[he,h5 he]
 have e3:leftE l.length l err=err:=by
  unfold leftE
  by_cases he:err=0
  ·simp[he]
  ·simp[he]
 rw[e1,e2,e3]at ht;have HT:=Lib.hid ht;have HL:=Lib.hid hl;clear ht hl h e1 e2 e3 h5
 go_enter Tryz.func106,Tryz.ntmps106
 go_wp2_with (first
  | (go_at_call 53;refine HL.out.mono ?_;rintro e w1 ⟨rfl,rfl⟩)
  | (go_at_call 98;refine HT.out.mono ?_;rintro e w2 ⟨a,c,rfl,hr,hc,ha2⟩;have hcv:=row_str (P:=Tryz.prog) 29 9 5 Tryz.underlying29 Tryz.underlying5 Tryz.underlying9 hr c hc))
 go_ret
 exact ⟨rfl,ha2⟩
theorem typ_own {w:World} {base n c:Nat} {g:Nat} {xs:List Value} {l:List UInt8} (h:w.ownsRow base 5 1 (.slice (some ⟨g,0,none⟩) n c) n xs):Typ w (some ⟨g,0,none⟩) l:=by
 intro b off he _;injection he with he;injection he with e1 e2;subst e1;rcases h.2 with ⟨hv,_⟩|⟨g',cap,cur,hv,_,hg,_⟩
 ·cases hv
 ·injection hv with e1
  injection e1 with e1;injection e1 with e1;subst e1;exact ⟨cur,(0,0),hg⟩
theorem read_any (a:Option Addr) (c:Nat) (l:List UInt8) (w:World) (hr:Row w a (B8 l)) (hn:a=none→l.length=0∧c=0) (hl:l.length≤140737000000000) :
  Calls Tryz.prog 49 #[.slice a l.length c] w fun e w'=>∃ r,e=.returned (.pointer (some ⟨r,0,none⟩))∧w.heap.size≤r∧Rdr w' r l 0∧Kept No w w':=by
 go_enter Tryz.func49,Tryz.ntmps49
 go_wp2_with (go_at_call 70;refine (grown_any a c l 0 _ (by omega) hr hn (by omega)).mono ?_;rintro e w1 ⟨g,rfl,hg,hown1,hk1⟩)
 go_ret
 have hrow:Row w1 (some ⟨g,0,none⟩) (B8 l):=.of_own hown1;exact ⟨_,rfl,hk1.size,⟨some ⟨g,0,none⟩,l.length,Blk.new _ _ _,by simp,by simp,hrow.keptNo ((Kept.refl No w1).alloc _),hl,by simp,(typ_own hown1).kept ((Kept.refl No w1).alloc _) (fun _ _ _ _ f=>f)⟩,hk1.alloc _⟩
theorem sub_any (w:World) (r:Nat) (l:List UInt8) (err n:Int) (h:Rdr w r l err) :
  Calls Tryz.prog 157 #[.pointer (some ⟨r,0,none⟩),.int .i64 n] w fun e w' =>
   ∃ s,e=.returned (.pointer (some ⟨s,0,none⟩))∧w.heap.size≤s∧Rdr w' s (taken n l err) (leftE n l err)∧After w w' r (leftL n l err) (leftE n l err):=by
 have ht:=take_any w r l err n h
 have hlt:(taken n l err).length≤140737000000000:=by
  obtain ⟨a,c,_,_,_,_,h4,_⟩:=h;unfold taken
  split
  ·simp;omega
  ·simp
 have h5:leftE n l err≠0→taken n l err=[]:=by
  unfold leftE taken;intro hh
  split at hh
  ·split at hh
   ·exact absurd rfl hh
   ·rw[if_neg (by simp_all)]
  ·rw[if_neg (by simp_all)]
 generalize taken n l err=t at *;generalize leftL n l err=l1 at *;generalize leftE n l err=e1 at *;have HT:=Lib.hid ht;clear ht h;have H5:=Lib.hid h5;clear h5
 go_enter Tryz.func157,Tryz.ntmps157
 go_wp2_with (first
  | (go_at_call 98;refine HT.out.mono ?_;rintro e w2 ⟨a,c,rfl,hr,hc,ha⟩)
  | (go_at_call 49;refine (read_any a c t _ hr (row_none hr hc) hlt).mono ?_;rintro e w3 ⟨s,rfl,hs,hrd,hk⟩;have hr3:=ha.rdr.keptNo hk;obtain ⟨a1,k1,q10,q11,q12,q13⟩:=hr3.cells;obtain ⟨a2,k2,q20,q21,q22,q23⟩:=hrd.cells))
 go_ret
 have hne:r≠s:=by have:=ha.rdr.lt;omega
 have hsz:=ha.kept.size;exact ⟨s,rfl,by omega,hrd.setErr e1 H5.out,hr3.far hrd hne _ rfl _,((ha.kept.then hk.any (fun _ _ h=>h))).setCell (p:=⟨s,1,none⟩) (.inl (by show w.heap.size≤s;omega)) _,ha.stay.trans (.same ((((Kept.refl (One s) _).setCell (p:=⟨s,1,none⟩) (.inr rfl) _).cell (p:=⟨r,0,none⟩) (by have:=hr3.lt;exact this) hne).trans (hk.cell (p:=⟨r,0,none⟩) ha.rdr.lt (fun f=>f))))⟩
theorem ret_int {k:IntKind} {a b:Int} (h:a=b):Ending.returned (.int k a)=.returned (.int k b):=by rw[h]
def rv:Nat→Nat→Nat→List UInt8→Int→Nat × List UInt8 × Int
 | 0,_,_,_,_=>(0,[],3)
 | f+1,i,n,l,err =>
  if leftE 1 l err≠0 then (0,leftL 1 l err,leftE 1 l err)
  else if 128≤num (taken 1 l err) then rv f (i+1) (n+num (taken 1 l err) % 128 * 128 ^ i) (leftL 1 l err) (leftE 1 l err)
  else if num (taken 1 l err)=0∧0 < i then (0,[],3)
  else (n+num (taken 1 l err) % 128 * 128 ^ i,leftL 1 l err,leftE 1 l err)
theorem rv_stop {f i n:Nat} {l:List UInt8} {err:Int} (h:leftE 1 l err≠0):rv (f+1) i n l err=(0,leftL 1 l err,leftE 1 l err):=by rw[rv,if_pos h]
theorem rv_more {f i n:Nat} {l:List UInt8} {err:Int} (h:leftE 1 l err=0) (h1:128≤num (taken 1 l err)):rv (f+1) i n l err=rv f (i+1) (n+num (taken 1 l err) % 128 * 128 ^ i) (leftL 1 l err) (leftE 1 l err):=by
 rw[rv,if_neg (by simpa using h),if_pos h1]
theorem rv_zero {f i n:Nat} {l:List UInt8} {err:Int} (h:leftE 1 l err=0) (h1:num (taken 1 l err)=0) (hi:0 < i):rv (f+1) i n l err=(0,[],3):=by
 rw[rv,if_neg (by simpa using h),if_neg (by omega),if_pos ⟨h1,hi⟩]
theorem rv_done {f i n:Nat} {l:List UInt8} {err:Int} (h:leftE 1 l err=0) (h1:num (taken 1 l err) < 128) (hi:¬ (num (taken 1 l err)=0∧0 < i)):rv (f+1) i n l err=(n+num (taken 1 l err) % 128 * 128 ^ i,leftL 1 l err,leftE 1 l err):=by
 rw[rv,if_neg (by simpa using h),if_neg (by omega),if_neg hi]
def RvIs (res:Nat × List UInt8 × Int) (w:World) (r:Nat) (e:Ending) (w':World):Prop:=e=.returned (.int .u32 res.1)∧After w w' r res.2.1 res.2.2
set_option maxRecDepth 100000 in
set_option maxHeartbeats 2000000 in
theorem rvar_any (w:World) (r:Nat) (l:List UInt8) (err:Int) (h:Rdr w r l err) :
  Calls Tryz.prog 51 #[.pointer (some ⟨r,0,none⟩)] w (RvIs (rv 4 0 0 l err) w r):=by
 generalize hR:rv 4 0 0 l err=R;have HR:=Lib.hid hR;clear hR
 go_enter Tryz.func51,Tryz.ntmps51
 go_wp2
 go_loopw [3,6] (fun n i wr=>∃ (k x:Nat) (l1:List UInt8) (e1:Int),k≤4∧i=.int .i64 k∧n=.int .u32 x∧x < 128 ^ k∧rv (4 - k) k x l1 e1=R∧After w wr r l1 e1) (fun _ i _=>4 - (intOf i).toNat)
 case atStart=>exact ⟨0,0,l,err,by omega,rfl,rfl,by omega,HR.out,h,Kept.refl _ _,.same rfl⟩
 case round =>
  obtain ⟨k,x,l1,e1,hk,rfl,rfl,hx,hrv,ha⟩:=hrel;have hby:=rbyte_any wr r l1 e1 ha.rdr;have hnum:=num_le 1 l1 e1 1 (by omega);have HB:=Lib.hid hby;have HV:=Lib.hid hrv;have hkept:=ha.kept;have hst:=ha.stay;have hafter:=ha;clear hby hrv HR h
  by_cases h4:k=4
  ·subst h4
   go_wp2_with (first|(go_at_call 72;refine (fail_any _ r l1 e1 3 ha.rdr).mono ?_;rintro e w2 ⟨rfl,hr2,hk2⟩))
   go_ret
   have:R=(0,[],3):=by rw[← HV.out];rfl
   rw[this];exact ⟨rfl,hr2,hkept.trans hk2,hr2.stay⟩
  ·by_cases he:leftE 1 l1 e1=0
   ·have h1:=rv_more (f:=3 - k) (i:=k) (n:=x) he
    have h2:=rv_zero (f:=3 - k) (i:=k) (n:=x) he;have h3:=rv_done (f:=3 - k) (i:=k) (n:=x) he;rw[show 3 - k+1=4 - k from by omega,HV.out]at h1 h2 h3;rw[he]at h1 h3;have HB2:=HB.out;rw[he]at HB2;generalize num (taken 1 l1 e1)=q at *;generalize leftL 1 l1 e1=l2 at *;have H1:=Lib.hid h1;have H2:=Lib.hid h2;have H3:=Lib.hid h3;have HBB:=Lib.hid HB2;clear h1 h2 h3 HB HB2 HV he;rcases (show k=0∨k=1∨k=2∨k=3 from by omega) with rfl|rfl|rfl|rfl
    all_goals
     clear h4 hk;rcases (show 128≤q∨(0 < q∧q < 128)∨q=0 from by omega) with hq|⟨hq0,hq⟩|rfl
    all_goals
     go_wp2_with (first
      | (go_at_call 50;refine HBB.out.mono ?_;rintro e w2 ⟨rfl,ha2⟩)
      | (go_at_call 52;refine (err_any _ r _ _ ha2.rdr).mono ?_;rintro e w3 ⟨rfl,rfl⟩)
      | (go_at_call 72;refine (fail_any _ r _ _ 3 ha2.rdr).mono ?_;rintro e w4 ⟨rfl,hr4,hk4⟩))
    ·go_roundw
     case rel=>exact ⟨1,x+q % 128 * 1,l2,0,by omega,by go_num,by go_num,by omega,(H1.out hq).symm,ha2.rdr,hkept.trans ha2.kept,hst.trans ha2.stay⟩
     case measure=>simp[intOf]
    ·go_ret
     rw[H3.out hq (by omega)];exact ⟨ret_int (by show ((x:Int)+q % 128:Int)=((x+q % 128 * 128 ^ 0:Nat):Int);omega),ha2.rdr,hkept.trans ha2.kept,hst.trans ha2.stay⟩
    ·go_ret
     rw[H3.out (by omega) (by omega)];exact ⟨ret_int (by show (x:Int)=((x+0 % 128 * 128 ^ 0:Nat):Int);omega),ha2.rdr,hkept.trans ha2.kept,hst.trans ha2.stay⟩
    ·go_roundw
     case rel=>exact ⟨2,x+q % 128 * 128,l2,0,by omega,by go_num,by go_num,by omega,(H1.out hq).symm,ha2.rdr,hkept.trans ha2.kept,hst.trans ha2.stay⟩
     case measure=>simp[intOf]
    ·go_ret
     rw[H3.out hq (by omega)];exact ⟨ret_int (by show ((x:Int)+q % 128 * 128:Int)=((x+q % 128 * 128 ^ 1:Nat):Int);omega),ha2.rdr,hkept.trans ha2.kept,hst.trans ha2.stay⟩
    ·go_ret
     rw[H2.out (by simp) (by omega)];exact ⟨rfl,hr4,(hkept.trans ha2.kept).trans hk4,hr4.stay⟩
    ·go_roundw
     case rel=>exact ⟨3,x+q % 128 * 16384,l2,0,by omega,by go_num,by go_num,by omega,(H1.out hq).symm,ha2.rdr,hkept.trans ha2.kept,hst.trans ha2.stay⟩
     case measure=>simp[intOf]
    ·go_ret
     rw[H3.out hq (by omega)];exact ⟨ret_int (by show ((x:Int)+q % 128 * 16384:Int)=((x+q % 128 * 128 ^ 2:Nat):Int);omega),ha2.rdr,hkept.trans ha2.kept,hst.trans ha2.stay⟩
    ·go_ret
     rw[H2.out (by simp) (by omega)];exact ⟨rfl,hr4,(hkept.trans ha2.kept).trans hk4,hr4.stay⟩
    ·go_roundw
     case rel=>exact ⟨4,x+q % 128 * 2097152,l2,0,by omega,by go_num,by go_num,by omega,(H1.out hq).symm,ha2.rdr,hkept.trans ha2.kept,hst.trans ha2.stay⟩
     case measure=>simp[intOf]
    ·go_ret
     rw[H3.out hq (by omega)];exact ⟨ret_int (by show ((x:Int)+q % 128 * 2097152:Int)=((x+q % 128 * 128 ^ 3:Nat):Int);omega),ha2.rdr,hkept.trans ha2.kept,hst.trans ha2.stay⟩
    ·go_ret
     rw[H2.out (by simp) (by omega)];exact ⟨rfl,hr4,(hkept.trans ha2.kept).trans hk4,hr4.stay⟩
   ·have hne:(leftE 1 l1 e1 != 0)=true:=by simpa using he
    have hlt:(k:Int) < 4:=by omega
    have hE:=rv_stop (f:=3 - k) (i:=k) (n:=x) he;rw[show 3 - k+1=4 - k from by omega,HV.out]at hE;have HE:=Lib.hid hE;clear hE he
    go_wp2_with (first
     | (go_at_call 50;refine HB.out.mono ?_;rintro e w2 ⟨rfl,ha2⟩)
     | (go_at_call 52;refine (err_any _ r _ _ ha2.rdr).mono ?_;rintro e w3 ⟨rfl,rfl⟩))
    go_ret
    rw[HE.out];exact ⟨rfl,ha2.rdr,hkept.trans ha2.kept,hst.trans ha2.stay⟩
theorem one_nil:taken 1 [] 0=[]∧leftL 1 [] 0=[]∧leftE 1 [] 0=2:=by decide
theorem one_cons (c:UInt8) (t:List UInt8):taken 1 (c :: t) 0=[c]∧leftL 1 (c :: t) 0=t∧leftE 1 (c :: t) 0=0:=by
 have h:(1:Int)≤((c :: t).length:Nat):=by simp;omega
 refine ⟨?_,?_,?_⟩
 ·unfold taken;rw[if_pos ⟨rfl,by omega,h⟩];rfl
 ·unfold leftL;rw[if_pos rfl,if_pos ⟨by omega,h⟩];rfl
 ·unfold leftE;rw[if_pos rfl,if_pos ⟨by omega,h⟩]
theorem num_one (c:UInt8):num [c]=c.toNat:=by simp[num]
theorem rv_nil (f i n:Nat):rv (f+1) i n [] 0=(0,[],2):=by rw[rv_stop (by rw[one_nil.2.2];decide),one_nil.2.1,one_nil.2.2]
theorem rv_cons_more (f i n:Nat) (c:UInt8) (t:List UInt8) (h:128≤c.toNat):rv (f+1) i n (c :: t) 0=rv f (i+1) (n+c.toNat % 128 * 128 ^ i) t 0:=by
 rw[rv_more (one_cons c t).2.2 (by rw[(one_cons c t).1,num_one];exact h),(one_cons c t).1,num_one,(one_cons c t).2.1,(one_cons c t).2.2]
theorem rv_cons_zero (f i n:Nat) (c:UInt8) (t:List UInt8) (h:c.toNat=0) (hi:0 < i):rv (f+1) i n (c :: t) 0=(0,[],3) :=
 rv_zero (one_cons c t).2.2 (by rw[(one_cons c t).1,num_one];exact h) hi
theorem rv_cons_done (f i n:Nat) (c:UInt8) (t:List UInt8) (h:c.toNat < 128) (hi:¬ (c.toNat=0∧0 < i)):rv (f+1) i n (c :: t) 0=(n+c.toNat % 128 * 128 ^ i,t,0):=by
 rw[rv_done (one_cons c t).2.2 (by rw[(one_cons c t).1,num_one];exact h) (by rw[(one_cons c t).1,num_one];exact hi),(one_cons c t).1,num_one,(one_cons c t).2.1,(one_cons c t).2.2]
theorem rv_var7:∀ (f i n:Nat) (l:List UInt8) (x:Nat) (l':List UInt8),rv f i n l 0=(x,l',0)→∃ y,x=n+y * 128 ^ i∧l=var7 y++l'∧(0 < i→0 < y):=by
 intro f
 induction f with
 | zero=>intro i n l x l' h;simp[rv]at h
 | succ f ih =>
  intro i n l x l' h;cases l with
  | nil=>rw[rv_nil]at h;simp at h
  | cons c t =>
   by_cases hc:128≤c.toNat
   ·rw[rv_cons_more _ _ _ _ _ hc]at h
    obtain ⟨y,hx,ht,hy⟩:=ih _ _ _ _ _ h;have hy0:0 < y:=hy (by omega);refine ⟨c.toNat % 128+128 * y,?_,?_,fun _=>by omega⟩
    ·rw[hx,Nat.pow_succ,Nat.add_mul,Nat.mul_comm (128 ^ i) 128,← Nat.mul_assoc,Nat.mul_comm y 128];omega
    ·rw[var7_ge (by omega),ht]
     have e1:(c.toNat % 128+128 * y) / 128=y:=by omega
     have hlt:=byte_lt c
     have e2:byteOf (((c.toNat % 128+128 * y:Nat):Int) % 128+128)=c:=by
      unfold byteOf
      have:(((c.toNat % 128+128 * y:Nat):Int) % 128+128).toNat=c.toNat:=by omega
      rw[this];simp
     rw[e1,e2];rfl
   ·by_cases hz:c.toNat=0∧0 < i
    ·rw[rv_cons_zero _ _ _ _ _ hz.1 hz.2]at h;simp at h
    ·rw[rv_cons_done _ _ _ _ _ (by omega) hz]at h
     simp only[Prod.mk.injEq]at h;obtain ⟨hx,ht,_⟩:=h;have e:c.toNat % 128=c.toNat:=by omega
     rw[e]at hx;refine ⟨c.toNat,hx.symm,?_,fun hi=>by omega⟩;rw[var7_lt (by omega),← ht];simp[byteOf]
theorem rv_lt:∀ (f i n:Nat) (l:List UInt8) (err:Int),n < 128 ^ i→(rv f i n l err).1 < 128 ^ (i+f):=by
 intro f
 induction f with
 | zero=>intro i n l err h;simp[rv];exact Nat.pow_pos (by omega)
 | succ f ih =>
  intro i n l err h;have hm:num (taken 1 l err) % 128 < 128:=Nat.mod_lt _ (by omega)
  have hb:n+num (taken 1 l err) % 128 * 128 ^ i < 128 ^ (i+1):=by
   rw[Nat.pow_succ]
   have:=Nat.mul_le_mul_right (128 ^ i) (show num (taken 1 l err) % 128≤127 from by omega)
   omega
  have hp:128 ^ (i+1)≤128 ^ (i+(f+1)):=Nat.pow_le_pow_right (by omega) (by omega);have hpos:0 < 128 ^ (i+(f+1)):=Nat.pow_pos (by omega);rw[rv]
  split
  ·exact hpos
  ·split
   ·have:=ih (i+1) _ (leftL 1 l err) (leftE 1 l err) hb
    rwa [show i+1+f=i+(f+1) from by omega]at this
   ·split
    ·exact hpos
    ·exact Nat.lt_of_lt_of_le hb hp
theorem var7_len (n:Nat) (h:n≤268435455):(if (n:Int) < 128 then 1 else if (n:Int) < 16384 then 2 else if (n:Int) < 2097152 then 3 else if (n:Int) < 268435456 then 4 else 0)=((var7 n).length:Int):=by
 rcases (show n < 128∨(128≤n∧n < 16384)∨(16384≤n∧n < 2097152)∨(2097152≤n∧n < 268435456) from by omega) with h|⟨h,h'⟩|⟨h,h'⟩|⟨h,h'⟩
 ·rw[if_pos (by omega),var7_lt h];rfl
 ·rw[if_neg (by omega),if_pos (by omega),var7_ge (by omega),var7_lt (by omega)];rfl
 ·rw[if_neg (by omega),if_neg (by omega),if_pos (by omega),var7_ge (by omega),var7_ge (by omega),var7_lt (by omega)];rfl
 ·rw[if_neg (by omega),if_neg (by omega),if_neg (by omega),if_pos (by omega),var7_ge (by omega),var7_ge (by omega),var7_ge (by omega),var7_lt (by omega)];rfl
def varL (n:Nat):List UInt8:=if n≤268435455 then var7 n else []
theorem varL_size (n:Nat) (h:n < 4294967296) (w:World):Calls Tryz.prog 164 #[.int .u32 n] w fun e w'=>e=.returned (.int .i64 (varL n).length)∧w=w':=by
 have h2:=varsize_any n w (by omega) (by omega);unfold varL
 by_cases h1:n≤268435455
 ·rw[var7_len n h1]at h2;rw[if_pos h1];exact h2
 ·rw[if_neg h1]
  have e:(if (n:Int) < 128 then 1 else if (n:Int) < 16384 then 2 else if (n:Int) < 2097152 then 3 else if (n:Int) < 268435456 then 4 else 0)=(0:Int):=by
   repeat rw[if_neg (by omega)]
  rw[e]at h2;exact h2
theorem Rdr.held {w5 w:World} {r:Nat} {l:List UInt8} {err:Int} {A:Prop} (h:Rdr w5 r l err) (hS:A∧Kept No w5 w):Rdr w r l err:=h.keptNo hS.2
def be:Nat→Nat→List UInt8
 | 0,_=>[]
 | k+1,n=>byteOf (((n / 256 ^ k:Nat):Int) % 256) :: be k n
def addByte (l:List UInt8) (x:Nat):List UInt8:=l++[byteOf ((x:Int) % 256)]
def addTwo (l:List UInt8) (x:Nat):List UInt8:=l++[byteOf ((x:Int) % 65536 / 256),byteOf ((x:Int) % 65536 % 256)]
def addFour (l:List UInt8) (x:Nat):List UInt8:=l++[byteOf ((x:Int) / 16777216),byteOf ((x:Int) / 65536 % 256),byteOf ((x:Int) / 256 % 256),byteOf ((x:Int) % 256)]
def addVar (l:List UInt8) (x:Nat):List UInt8:=l++varL x
def addBin (l:List UInt8) (s:ByteArray):List UInt8:=l++(byteOf ((s.size:Int) / 256) :: byteOf ((s.size:Int) % 256) :: s.data.toList)
end Go.Proofs.YtofjhopecfmbcaaGreatDoor
