import Derived.Test.YtdeecgmihfakgaaGreatDoorYFA
import Derived.Deep.RegionHeld3
import Derived.Test.YtdeecgmihfakgaaGreatDoorYFQ
import Derived.Test.YtdeecgmihfakgaaGreatDoorYF2
namespace Go.Proofs.YtdeecgmihfakgaaGreatDoor
open Go.RowKit
set_option linter.unusedVariables false
set_option linter.unusedSimpArgs false
theorem fxId_mem {id:Nat} {k:Int} (h:idsL k≠[]):fxId id k∈idsL k:=by
 unfold fxId;have hl:=List.length_pos_iff.2 h;rw[List.getD_eq_getElem?_getD,List.getElem?_eq_getElem (Nat.mod_lt _ hl)];exact List.getElem_mem _
theorem fixS_ok (s:ByteArray):okText (fixS s)=true:=by
 have h1:=fixS_len s;unfold okText;rw[decide_eq_true (by omega)];show isText (fixL s.data.toList)=true;rw[isText_cnt];exact Option.isSome_iff_ne_none.2 (joins s.data.toList []).1
theorem noTexts_nil:noTexts ⟨#[]⟩ ⟨#[]⟩=true:=by decide +kernel
theorem cut9_len (a:ByteArray):(cut9 a).size≤9:=by
 unfold cut9;rw[ByteArray.size_extract];omega
theorem toList_nil:(⟨#[]⟩:ByteArray).toList.isEmpty=true:=by decide +kernel
theorem val_fin:∀ q:Fin 256,(q.1∈[1,23,25,36,37,40,41,42]→typL q.1=1)∧(q.1∈[11,33,35,39]→(typL q.1=2∨typL q.1=4∨q.1=39))∧(q.1=8→typL q.1=5)∧(typL q.1=5→q.1 ∉ [1,23,25,36,37,40,41,42]∧q.1 ∉ [11,33,35,39]):=by decide +kernel
theorem fx_value (q n:Nat) (a b:ByteArray) (hn:n < 4294967296) (hq:q < 256) (ht:1≤typL q):valueB q (fxN q n) (fxA q a) (fxB q b)=true:=by
 have ht7:=typL_le q;have hv9:=val_fin ⟨q,hq⟩;dsimp only at hv9;obtain ⟨v1,v2,v3,v4⟩:=hv9
 have hR:rightB q (fxN q n) (fxA q a) (fxB q b)=true:=by
  unfold rightB rightT fxN fxA fxB;rcases (show typL q=1∨typL q=2∨typL q=3∨typL q=4∨typL q=5∨typL q=6∨typL q=7 from by omega) with h|h|h|h|h|h|h<;>simp only[h,Nat.reduceEqDiff,if_true,if_false,ite_true,ite_false]
  ·unfold numB;rw[noTexts_nil,decide_eq_true (by omega)];rfl
  ·unfold numB;rw[noTexts_nil,decide_eq_true (by omega)];rfl
  ·unfold numB;rw[noTexts_nil,decide_eq_true (by split<;>omega)];rfl
  ·unfold numB;rw[noTexts_nil,decide_eq_true (by omega)];rfl
  ·rw[toList_nil]
   split
   ·rw[((made_fix a).vt.ok (by have:=(made_fix a).size;omega))];rfl
   ·rw[fixS_ok];rfl
  ·have h9:decide ((cut9 a).size≤65535)=true:=decide_eq_true (by have:=cut9_len a;omega)
   rw[toList_nil,h9];rfl
  ·rw[fixS_ok,fixS_ok];rfl
 unfold valueB;rw[hR,Bool.true_and];unfold valueV
 split
 ·rename_i h
  have h1:=v1 h;unfold fxN;rw[if_pos h1];exact decide_eq_true (by omega)
 ·split
  ·rename_i h
   have h1:=v2 h
   have:fxN q n≠0:=by
    unfold fxN;rcases h1 with h1|h1|h1
    ·rw[if_neg (by omega),if_pos h1];omega
    ·rw[if_neg (by omega),if_neg (by omega),if_neg (by omega),if_pos h1];omega
    ·have h3:typL q=3:=by rw[h1];decide
     rw[if_neg (by omega),if_neg (by omega),if_pos h3]
     split<;>omega
   simp[this]
  ·split
   ·rename_i h
    have h1:=v3 h;unfold fxA;rw[if_pos h1,if_pos h];exact (made_fix a).name
   ·rfl
end Go.Proofs.YtdeecgmihfakgaaGreatDoor
