import Derived.Lib.Hide
namespace Go.Proofs.YtofjhopecfmbcaaGreatDoor
set_option linter.unusedVariables false
set_option linter.unusedSimpArgs false
def typL (id:Nat):Nat :=
 if id∈[1,23,25,36,37,40,41,42] then 1
 else if id∈[19,33,34,35] then 2
 else if id∈[2,17,24,39] then 3
 else if id∈[11] then 4
 else if id∈[3,8,18,21,26,28,31] then 5
 else if id∈[9,22] then 6
 else if id∈[38] then 7
 else 0
theorem typL_no (id:Nat) (h:¬ (id=1∨id=23∨id=25∨id=36∨id=37∨id=40∨id=41∨id=42∨id=19∨id=33∨id=34∨id=35∨id=2∨id=17∨id=24∨id=39∨id=11∨id=3∨id=8∨id=18∨id=21∨id=26∨id=28∨id=31∨id=9∨id=22∨id=38)):typL id=0:=by
 unfold typL;rw[if_neg (by simp;omega),if_neg (by simp;omega),if_neg (by simp;omega),if_neg (by simp;omega),if_neg (by simp;omega),if_neg (by simp;omega),if_neg (by simp;omega)]
theorem typL_le (id:Nat):typL id≤7:=by
 unfold typL
 repeat' split
 all_goals decide
def kindsL (id:Nat):List Int :=
 if id∈[1,2,3,8,9] then [3,16]
 else if id∈[11] then [3,8]
 else if id∈[17] then [1,2,14]
 else if id∈[18,19,26,36,37,40,41,42] then [2]
 else if id∈[21,22] then [1,2,15]
 else if id∈[23,25] then [1]
 else if id∈[24] then [16]
 else if id∈[28] then [2,14]
 else if id∈[31] then [2,4,5,6,7,9,11,14,15]
 else if id∈[33,34,39] then [1,2]
 else if id∈[35] then [3]
 else if id∈[38] then [1,2,3,4,5,6,7,8,9,10,11,14,15,16]
 else []
def forL (k:Int):List Nat :=
 if k=1 then [17,21,22,23,25,33,34,38,39]
 else if k=2 then [17,18,19,21,22,26,28,31,33,34,36,37,38,39,40,41,42]
 else if k=3 then [1,2,3,8,9,11,35,38]
 else if k=4∨k=5∨k=6∨k=7∨k=9∨k=11 then [31,38]
 else if k=8 then [11,38]
 else if k=10 then [38]
 else if k=14 then [17,28,31,38]
 else if k=15 then [21,22,31,38]
 else if k=16 then [1,2,3,8,9,24,38]
 else []
theorem forL_no (k:Int) (h:¬ (k=1∨k=2∨k=3∨k=4∨k=5∨k=6∨k=7∨k=9∨k=11∨k=8∨k=10∨k=14∨k=15∨k=16)):forL k=[]:=by
 unfold forL;rw[if_neg (by omega),if_neg (by omega),if_neg (by omega),if_neg (by omega),if_neg (by omega),if_neg (by omega),if_neg (by omega),if_neg (by omega),if_neg (by omega)]
def forB (id:Nat) (k:Int):Bool:=(kindsL id).contains k
theorem kindsL_in:∀ id:Fin 256,∀ k∈kindsL id,k=1∨k=2∨k=3∨k=4∨k=5∨k=6∨k=7∨k=9∨k=11∨k=8∨k=10∨k=14∨k=15∨k=16:=by decide +kernel
theorem for_fin:∀ id:Fin 256,∀ k∈([1,2,3,4,5,6,7,9,11,8,10,14,15,16]:List Int),(forL k).contains id.1=(kindsL id).contains k:=by decide +kernel
theorem forL_eq (id:Nat) (k:Int) (h:id < 256):(forL k).contains id=forB id k:=by
 unfold forB
 by_cases hk:k=1∨k=2∨k=3∨k=4∨k=5∨k=6∨k=7∨k=9∨k=11∨k=8∨k=10∨k=14∨k=15∨k=16
 ·exact for_fin ⟨id,h⟩ k (by simp;omega)
 ·rw[forL_no k hk]
  have:k ∉ kindsL id:=fun hm=>hk (kindsL_in ⟨id,h⟩ k hm)
  symm;simpa using this
def oftenB (id:Nat) (k:Int):Bool:=forB id k&&(decide (id=38)||(decide (id=11)&&decide (k=3)))
end Go.Proofs.YtofjhopecfmbcaaGreatDoor
