import Derived.Test.YtohmcfmcbibbcaaGreatDoorBase
import Derived.Test.YtohmcfmcbibbcaaGreatDoorUtf
import Derived.Test.YtohmcfmcbibbcaaGreatDoorChecked
namespace Go.Proofs.YtohmcfmcbibbcaaGreatDoor
open Go.RowKit
set_option linter.unusedVariables false
set_option linter.unusedSimpArgs false
def SignIs (z:Nat) (w:World) (e:Ending) (w':World):Prop:=(∃ n:Int,e=.returned (.tuple #[.int .i64 n,.int .i64 z]))∧w=w'
theorem sz_list (B:ByteArray):B.data.toList.length=B.size:=by rw[Array.length_toList];rfl
theorem get_at (s:ByteArray) (k:Nat) (h:k < s.size):s.data.toList.getD k 0=s[k]:=by
 rw[List.getD_eq_getElem?_getD,List.getElem?_eq_getElem (by rw[sz_list];exact h)]
 rfl
theorem drop_getD (l:List UInt8) (a i:Nat):(l.drop a).getD i 0=l.getD (a+i) 0:=by simp[List.getD_eq_getElem?_getD,List.getElem?_drop]
def sgAt (s:ByteArray) (k:Nat):Nat:=sgL (s.data.toList.drop k)
theorem sgAt_N (s:ByteArray) (k:Nat) (h:k < s.size):sgAt s k=sgN (s.size - k) (s.data.toList.getD k 0).toNat (s.data.toList.getD (k+1) 0).toNat (s.data.toList.getD (k+2) 0).toNat (s.data.toList.getD (k+3) 0).toNat:=by
 unfold sgAt;rw[sgL_N _ (by intro h0;have:=congrArg List.length h0;rw[List.length_drop,sz_list]at this;simp at this;omega)];simp only[drop_getD,List.length_drop,sz_list,Nat.add_zero]
set_option maxRecDepth 100000 in
set_option maxHeartbeats 4000000 in
theorem sign_any (s:ByteArray) (k:Nat) (w:World) (hk:k < s.size) (hs:s.size≤65535) :
  Calls Tryz.prog 243 #[.string s,.int .i64 k] w (SignIs (sgAt s k) w):=by
 have hN:=sgAt_N s k hk;have h0:=get_at s k hk;rw[h0]at hN;have u0:=byte_lt s[k];have hkI:(k:Int) < s.size:=by omega
 rcases (show s[k].toNat=0∨(0 < s[k].toNat∧s[k].toNat < 128)∨(128≤s[k].toNat∧s[k].toNat < 192)∨248≤s[k].toNat∨(192≤s[k].toNat∧s[k].toNat < 224)∨(224≤s[k].toNat∧s[k].toNat < 240)∨(240≤s[k].toNat∧s[k].toNat < 248) from by omega) with c|⟨c,c'⟩|⟨c,c'⟩|c|⟨c,c'⟩|⟨c,c'⟩|⟨c,c'⟩
 ·skip
  have hsg:sgAt s k=0:=by
   rw[hN];unfold sgN
   repeat (first|rw[if_pos (by omega)]|rw[if_neg (by omega)])
  have HS:=Lib.hid hsg;clear hN hsg h0
  go_enter Tryz.func243,Tryz.ntmps243
  go_wp2
  refine wp_loop_rounds 1 ?_
  repeat (rw[rounds_succ];go_wp2)
  go_ret2
  exact ⟨⟨_,by rw[HS.out];rfl⟩,rfl⟩
 ·skip
  have hsg:sgAt s k=1:=by
   rw[hN];unfold sgN
   repeat (first|rw[if_pos (by omega)]|rw[if_neg (by omega)])
  have HS:=Lib.hid hsg;clear hN hsg h0
  go_enter Tryz.func243,Tryz.ntmps243
  go_wp2
  refine wp_loop_rounds 1 ?_
  repeat (rw[rounds_succ];go_wp2)
  go_ret2
  exact ⟨⟨_,by rw[HS.out];rfl⟩,rfl⟩
 ·skip
  have hsg:sgAt s k=0:=by
   rw[hN];unfold sgN
   repeat (first|rw[if_pos (by omega)]|rw[if_neg (by omega)])
  have HS:=Lib.hid hsg;clear hN hsg h0
  go_enter Tryz.func243,Tryz.ntmps243
  go_wp2
  go_ret2
  exact ⟨⟨_,by rw[HS.out];rfl⟩,rfl⟩
 ·skip
  have hsg:sgAt s k=0:=by
   rw[hN];unfold sgN
   repeat (first|rw[if_pos (by omega)]|rw[if_neg (by omega)])
  have HS:=Lib.hid hsg;clear hN hsg h0
  go_enter Tryz.func243,Tryz.ntmps243
  go_wp2
  go_ret2
  exact ⟨⟨_,by rw[HS.out];rfl⟩,rfl⟩
 ·by_cases hsh:k+2≤s.size
  ·have hk1:(k:Int)+2≤s.size:=by omega
   have g1:k+1 < s.size:=by omega
   have e1:=get_at s (k+1) g1;have u1:=byte_lt s[k+1];rw[e1]at hN;clear e1;rcases (show s[k+1].toNat < 128∨192≤s[k+1].toNat∨(128≤s[k+1].toNat∧s[k+1].toNat < 192) from by omega) with d1|d1|⟨d1,d1'⟩
   ·skip
    have hsg:sgAt s k=0:=by
     rw[hN];unfold sgN
     repeat (first|rw[if_pos (by omega)]|rw[if_neg (by omega)])
    have HS:=Lib.hid hsg;clear hN hsg h0
    go_enter Tryz.func243,Tryz.ntmps243
    go_wp2
    refine wp_loop_rounds 3 ?_
    repeat (rw[rounds_succ];go_wp2)
    go_ret2
    exact ⟨⟨_,by rw[HS.out];rfl⟩,rfl⟩
   ·skip
    have hsg:sgAt s k=0:=by
     rw[hN];unfold sgN
     repeat (first|rw[if_pos (by omega)]|rw[if_neg (by omega)])
    have HS:=Lib.hid hsg;clear hN hsg h0
    go_enter Tryz.func243,Tryz.ntmps243
    go_wp2
    refine wp_loop_rounds 3 ?_
    repeat (rw[rounds_succ];go_wp2)
    go_ret2
    exact ⟨⟨_,by rw[HS.out];rfl⟩,rfl⟩
   ·rcases (show ((s[k].toNat - 192) * 64+(s[k+1].toNat - 128)) < 128∨128≤((s[k].toNat - 192) * 64+(s[k+1].toNat - 128)) from by omega) with f|f
    ·skip
     have hsg:sgAt s k=0:=by
      rw[hN];unfold sgN
      repeat (first|rw[if_pos (by omega)]|rw[if_neg (by omega)])
     have HS:=Lib.hid hsg;clear hN hsg h0
     go_enter Tryz.func243,Tryz.ntmps243
     go_wp2
     refine wp_loop_rounds 3 ?_
     repeat (rw[rounds_succ];go_wp2)
     go_ret2
     exact ⟨⟨_,by rw[HS.out];rfl⟩,rfl⟩
    ·skip
     have hsg:sgAt s k=2:=by
      rw[hN];unfold sgN
      repeat (first|rw[if_pos (by omega)]|rw[if_neg (by omega)])
     have HS:=Lib.hid hsg;clear hN hsg h0
     go_enter Tryz.func243,Tryz.ntmps243
     go_wp2
     refine wp_loop_rounds 3 ?_
     repeat (rw[rounds_succ];go_wp2)
     go_ret2
     exact ⟨⟨_,by rw[HS.out];rfl⟩,rfl⟩
  ·have hk1:(s.size:Int) < k+2:=by omega
   have hsg:sgAt s k=0:=by
    rw[hN];unfold sgN
    repeat (first|rw[if_pos (by omega)]|rw[if_neg (by omega)])
   have HS:=Lib.hid hsg;clear hN hsg h0
   go_enter Tryz.func243,Tryz.ntmps243
   go_wp2
   go_ret2
   exact ⟨⟨_,by rw[HS.out];rfl⟩,rfl⟩
 ·by_cases hsh:k+3≤s.size
  ·have hk1:(k:Int)+3≤s.size:=by omega
   have g1:k+1 < s.size:=by omega
   have e1:=get_at s (k+1) g1;have u1:=byte_lt s[k+1];rw[e1]at hN;clear e1;have g2:k+2 < s.size:=by omega
   have e2:=get_at s (k+2) g2;have u2:=byte_lt s[k+2];rw[e2]at hN;clear e2;rcases (show s[k+1].toNat < 128∨192≤s[k+1].toNat∨(128≤s[k+1].toNat∧s[k+1].toNat < 192) from by omega) with d1|d1|⟨d1,d1'⟩
   ·skip
    have hsg:sgAt s k=0:=by
     rw[hN];unfold sgN
     repeat (first|rw[if_pos (by omega)]|rw[if_neg (by omega)])
    have HS:=Lib.hid hsg;clear hN hsg h0
    go_enter Tryz.func243,Tryz.ntmps243
    go_wp2
    refine wp_loop_rounds 4 ?_
    repeat (rw[rounds_succ];go_wp2)
    go_ret2
    exact ⟨⟨_,by rw[HS.out];rfl⟩,rfl⟩
   ·skip
    have hsg:sgAt s k=0:=by
     rw[hN];unfold sgN
     repeat (first|rw[if_pos (by omega)]|rw[if_neg (by omega)])
    have HS:=Lib.hid hsg;clear hN hsg h0
    go_enter Tryz.func243,Tryz.ntmps243
    go_wp2
    refine wp_loop_rounds 4 ?_
    repeat (rw[rounds_succ];go_wp2)
    go_ret2
    exact ⟨⟨_,by rw[HS.out];rfl⟩,rfl⟩
   ·rcases (show s[k+2].toNat < 128∨192≤s[k+2].toNat∨(128≤s[k+2].toNat∧s[k+2].toNat < 192) from by omega) with d2|d2|⟨d2,d2'⟩
    ·skip
     have hsg:sgAt s k=0:=by
      rw[hN];unfold sgN
      repeat (first|rw[if_pos (by omega)]|rw[if_neg (by omega)])
     have HS:=Lib.hid hsg;clear hN hsg h0
     go_enter Tryz.func243,Tryz.ntmps243
     go_wp2
     refine wp_loop_rounds 4 ?_
     repeat (rw[rounds_succ];go_wp2)
     go_ret2
     exact ⟨⟨_,by rw[HS.out];rfl⟩,rfl⟩
    ·skip
     have hsg:sgAt s k=0:=by
      rw[hN];unfold sgN
      repeat (first|rw[if_pos (by omega)]|rw[if_neg (by omega)])
     have HS:=Lib.hid hsg;clear hN hsg h0
     go_enter Tryz.func243,Tryz.ntmps243
     go_wp2
     refine wp_loop_rounds 4 ?_
     repeat (rw[rounds_succ];go_wp2)
     go_ret2
     exact ⟨⟨_,by rw[HS.out];rfl⟩,rfl⟩
    ·rcases (show (((s[k].toNat - 224) * 64+(s[k+1].toNat - 128)) * 64+(s[k+2].toNat - 128)) < 2048∨(55296≤(((s[k].toNat - 224) * 64+(s[k+1].toNat - 128)) * 64+(s[k+2].toNat - 128))∧(((s[k].toNat - 224) * 64+(s[k+1].toNat - 128)) * 64+(s[k+2].toNat - 128))≤57343)∨(2048≤(((s[k].toNat - 224) * 64+(s[k+1].toNat - 128)) * 64+(s[k+2].toNat - 128))∧(((s[k].toNat - 224) * 64+(s[k+1].toNat - 128)) * 64+(s[k+2].toNat - 128)) < 55296)∨57343 < (((s[k].toNat - 224) * 64+(s[k+1].toNat - 128)) * 64+(s[k+2].toNat - 128)) from by omega) with f|⟨f,f'⟩|⟨f,f'⟩|f
     ·skip
      have hsg:sgAt s k=0:=by
       rw[hN];unfold sgN
       repeat (first|rw[if_pos (by omega)]|rw[if_neg (by omega)])
      have HS:=Lib.hid hsg;clear hN hsg h0
      go_enter Tryz.func243,Tryz.ntmps243
      go_wp2
      refine wp_loop_rounds 4 ?_
      repeat (rw[rounds_succ];go_wp2)
      go_ret2
      exact ⟨⟨_,by rw[HS.out];rfl⟩,rfl⟩
     ·skip
      have hsg:sgAt s k=0:=by
       rw[hN];unfold sgN
       repeat (first|rw[if_pos (by omega)]|rw[if_neg (by omega)])
      have HS:=Lib.hid hsg;clear hN hsg h0
      go_enter Tryz.func243,Tryz.ntmps243
      go_wp2
      refine wp_loop_rounds 4 ?_
      repeat (rw[rounds_succ];go_wp2)
      go_ret2
      exact ⟨⟨_,by rw[HS.out];rfl⟩,rfl⟩
     ·skip
      have hsg:sgAt s k=3:=by
       rw[hN];unfold sgN
       repeat (first|rw[if_pos (by omega)]|rw[if_neg (by omega)])
      have HS:=Lib.hid hsg;clear hN hsg h0
      go_enter Tryz.func243,Tryz.ntmps243
      go_wp2
      refine wp_loop_rounds 4 ?_
      repeat (rw[rounds_succ];go_wp2)
      go_ret2
      exact ⟨⟨_,by rw[HS.out];rfl⟩,rfl⟩
     ·skip
      have hsg:sgAt s k=3:=by
       rw[hN];unfold sgN
       repeat (first|rw[if_pos (by omega)]|rw[if_neg (by omega)])
      have HS:=Lib.hid hsg;clear hN hsg h0
      go_enter Tryz.func243,Tryz.ntmps243
      go_wp2
      refine wp_loop_rounds 4 ?_
      repeat (rw[rounds_succ];go_wp2)
      go_ret2
      exact ⟨⟨_,by rw[HS.out];rfl⟩,rfl⟩
  ·have hk1:(s.size:Int) < k+3:=by omega
   have hsg:sgAt s k=0:=by
    rw[hN];unfold sgN
    repeat (first|rw[if_pos (by omega)]|rw[if_neg (by omega)])
   have HS:=Lib.hid hsg;clear hN hsg h0
   go_enter Tryz.func243,Tryz.ntmps243
   go_wp2
   go_ret2
   exact ⟨⟨_,by rw[HS.out];rfl⟩,rfl⟩
 ·by_cases hsh:k+4≤s.size
  ·have hk1:(k:Int)+4≤s.size:=by omega
   have g1:k+1 < s.size:=by omega
   have e1:=get_at s (k+1) g1;have u1:=byte_lt s[k+1];rw[e1]at hN;clear e1;have g2:k+2 < s.size:=by omega
   have e2:=get_at s (k+2) g2;have u2:=byte_lt s[k+2];rw[e2]at hN;clear e2;have g3:k+3 < s.size:=by omega
   have e3:=get_at s (k+3) g3;have u3:=byte_lt s[k+3];rw[e3]at hN;clear e3;rcases (show s[k+1].toNat < 128∨192≤s[k+1].toNat∨(128≤s[k+1].toNat∧s[k+1].toNat < 192) from by omega) with d1|d1|⟨d1,d1'⟩
   ·skip
    have hsg:sgAt s k=0:=by
     rw[hN];unfold sgN
     repeat (first|rw[if_pos (by omega)]|rw[if_neg (by omega)])
    have HS:=Lib.hid hsg;clear hN hsg h0
    go_enter Tryz.func243,Tryz.ntmps243
    go_wp2
    refine wp_loop_rounds 5 ?_
    repeat (rw[rounds_succ];go_wp2)
    go_ret2
    exact ⟨⟨_,by rw[HS.out];rfl⟩,rfl⟩
   ·skip
    have hsg:sgAt s k=0:=by
     rw[hN];unfold sgN
     repeat (first|rw[if_pos (by omega)]|rw[if_neg (by omega)])
    have HS:=Lib.hid hsg;clear hN hsg h0
    go_enter Tryz.func243,Tryz.ntmps243
    go_wp2
    refine wp_loop_rounds 5 ?_
    repeat (rw[rounds_succ];go_wp2)
    go_ret2
    exact ⟨⟨_,by rw[HS.out];rfl⟩,rfl⟩
   ·rcases (show s[k+2].toNat < 128∨192≤s[k+2].toNat∨(128≤s[k+2].toNat∧s[k+2].toNat < 192) from by omega) with d2|d2|⟨d2,d2'⟩
    ·skip
     have hsg:sgAt s k=0:=by
      rw[hN];unfold sgN
      repeat (first|rw[if_pos (by omega)]|rw[if_neg (by omega)])
     have HS:=Lib.hid hsg;clear hN hsg h0
     go_enter Tryz.func243,Tryz.ntmps243
     go_wp2
     refine wp_loop_rounds 5 ?_
     repeat (rw[rounds_succ];go_wp2)
     go_ret2
     exact ⟨⟨_,by rw[HS.out];rfl⟩,rfl⟩
    ·skip
     have hsg:sgAt s k=0:=by
      rw[hN];unfold sgN
      repeat (first|rw[if_pos (by omega)]|rw[if_neg (by omega)])
     have HS:=Lib.hid hsg;clear hN hsg h0
     go_enter Tryz.func243,Tryz.ntmps243
     go_wp2
     refine wp_loop_rounds 5 ?_
     repeat (rw[rounds_succ];go_wp2)
     go_ret2
     exact ⟨⟨_,by rw[HS.out];rfl⟩,rfl⟩
    ·rcases (show s[k+3].toNat < 128∨192≤s[k+3].toNat∨(128≤s[k+3].toNat∧s[k+3].toNat < 192) from by omega) with d3|d3|⟨d3,d3'⟩
     ·skip
      have hsg:sgAt s k=0:=by
       rw[hN];unfold sgN
       repeat (first|rw[if_pos (by omega)]|rw[if_neg (by omega)])
      have HS:=Lib.hid hsg;clear hN hsg h0
      go_enter Tryz.func243,Tryz.ntmps243
      go_wp2
      refine wp_loop_rounds 5 ?_
      repeat (rw[rounds_succ];go_wp2)
      go_ret2
      exact ⟨⟨_,by rw[HS.out];rfl⟩,rfl⟩
     ·skip
      have hsg:sgAt s k=0:=by
       rw[hN];unfold sgN
       repeat (first|rw[if_pos (by omega)]|rw[if_neg (by omega)])
      have HS:=Lib.hid hsg;clear hN hsg h0
      go_enter Tryz.func243,Tryz.ntmps243
      go_wp2
      refine wp_loop_rounds 5 ?_
      repeat (rw[rounds_succ];go_wp2)
      go_ret2
      exact ⟨⟨_,by rw[HS.out];rfl⟩,rfl⟩
     ·rcases (show ((((s[k].toNat - 240) * 64+(s[k+1].toNat - 128)) * 64+(s[k+2].toNat - 128)) * 64+(s[k+3].toNat - 128)) < 65536∨1114111 < ((((s[k].toNat - 240) * 64+(s[k+1].toNat - 128)) * 64+(s[k+2].toNat - 128)) * 64+(s[k+3].toNat - 128))∨(65536≤((((s[k].toNat - 240) * 64+(s[k+1].toNat - 128)) * 64+(s[k+2].toNat - 128)) * 64+(s[k+3].toNat - 128))∧((((s[k].toNat - 240) * 64+(s[k+1].toNat - 128)) * 64+(s[k+2].toNat - 128)) * 64+(s[k+3].toNat - 128))≤1114111) from by omega) with f|f|⟨f,f'⟩
      ·skip
       have hsg:sgAt s k=0:=by
        rw[hN];unfold sgN
        repeat (first|rw[if_pos (by omega)]|rw[if_neg (by omega)])
       have HS:=Lib.hid hsg;clear hN hsg h0
       go_enter Tryz.func243,Tryz.ntmps243
       go_wp2
       refine wp_loop_rounds 5 ?_
       repeat (rw[rounds_succ];go_wp2)
       go_ret2
       exact ⟨⟨_,by rw[HS.out];rfl⟩,rfl⟩
      ·skip
       have hsg:sgAt s k=0:=by
        rw[hN];unfold sgN
        repeat (first|rw[if_pos (by omega)]|rw[if_neg (by omega)])
       have HS:=Lib.hid hsg;clear hN hsg h0
       go_enter Tryz.func243,Tryz.ntmps243
       go_wp2
       refine wp_loop_rounds 5 ?_
       repeat (rw[rounds_succ];go_wp2)
       go_ret2
       exact ⟨⟨_,by rw[HS.out];rfl⟩,rfl⟩
      ·skip
       have hsg:sgAt s k=4:=by
        rw[hN];unfold sgN
        repeat (first|rw[if_pos (by omega)]|rw[if_neg (by omega)])
       have HS:=Lib.hid hsg;clear hN hsg h0
       go_enter Tryz.func243,Tryz.ntmps243
       go_wp2
       refine wp_loop_rounds 5 ?_
       repeat (rw[rounds_succ];go_wp2)
       go_ret2
       exact ⟨⟨_,by rw[HS.out];rfl⟩,rfl⟩
  ·have hk1:(s.size:Int) < k+4:=by omega
   have hsg:sgAt s k=0:=by
    rw[hN];unfold sgN
    repeat (first|rw[if_pos (by omega)]|rw[if_neg (by omega)])
   have HS:=Lib.hid hsg;clear hN hsg h0
   go_enter Tryz.func243,Tryz.ntmps243
   go_wp2
   go_ret2
   exact ⟨⟨_,by rw[HS.out];rfl⟩,rfl⟩
end Go.Proofs.YtohmcfmcbibbcaaGreatDoor
