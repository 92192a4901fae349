import Derived.Test.YtkochkhfbhjicaaGreatDoorYG3
namespace Go.Proofs.YtkochkhfbhjicaaGreatDoor
open Go.RowKit
set_option linter.unusedVariables false
set_option linter.unusedSimpArgs false
set_option maxRecDepth 100000
theorem jDa:∀ (f i n:Nat) (l:List UInt8),f≤l.length→(rv f i n (l.take f) 0).1=(rv f i n l 0).1∧(rv f i n (l.take f) 0).2.2=(rv f i n l 0).2.2∧((rv f i n l 0).2.2=0→(rv f i n (l.take f) 0).2.1.length+(l.length - f)=(rv f i n l 0).2.1.length)
 | 0,i,n,l,_=>⟨rfl,rfl,λh=>by cases h⟩
 | f+1,i,n,[],h=>by simp at h
 | f+1,i,n,c :: t,h=>by
  have hf:f≤t.length:=by simpa using h
  have ih:=λi n=>jDa f i n t hf
  have t1:∀ x:List UInt8,qb 1 (c :: x) 0=[c]:=λx=>by unfold qb;rw[if_pos ⟨rfl,by decide,by simp only[List.length_cons];omega⟩];rfl
  have l1:∀ x:List UInt8,qt 1 (c :: x) 0=x:=λx=>by unfold qt;rw[if_pos rfl,if_pos ⟨by decide,by simp only[List.length_cons];omega⟩];rfl
  have e1:∀ x:List UInt8,qq 1 (c :: x) 0=0:=λx=>by unfold qq;rw[if_pos rfl,if_pos ⟨by decide,by simp only[List.length_cons];omega⟩]
  rw[List.take_succ_cons]
  by_cases h1:128≤num [c]
  ·rw[j9a (e1 _) (by rw[t1];exact h1),j9a (e1 _) (by rw[t1];exact h1),t1,t1,l1,l1,e1,e1]
   have:=ih (i+1) (n+num [c] % 128*128 ^ i)
   refine ⟨this.1,this.2.1,λh9=>?_⟩;have h8:=this.2.2 h9;simp only[List.length_cons];omega
  ·by_cases h2:num [c]=0∧0<i
   ·rw[jDb (e1 _) (by rw[t1];exact h2.1) h2.2,jDb (e1 _) (by rw[t1];exact h2.1) h2.2]
    exact ⟨rfl,rfl,λh=>by cases h⟩
   ·rw[j99 (e1 _) (by rw[t1];omega) (by rw[t1];exact h2),j99 (e1 _) (by rw[t1];omega) (by rw[t1];exact h2),t1,t1,l1,l1,e1,e1]
    refine ⟨rfl,rfl,λ_=>?_⟩;simp only[List.length_take,List.length_cons];omega
theorem jE2 (l:List UInt8):j21 l=(j0m l).2.2∧((j0m l).2.2=0→j12 l=⟨((num (qb 1 l 0) / 16:Nat):Int),num (qb 1 l 0) % 16,(l.length:Int) - ((j0m l).2.1.length:Int),(j0m l).1⟩):=by
 by_cases h5:l.length≤5
 ·have e:l.take 5=l:=List.take_of_length_le h5
  have hE:j21 l=(j0m l).2.2:=by unfold j21;rw[e]
  refine ⟨hE,λh=>?_⟩;unfold j12;rw[if_pos (hE.trans h),e]
 ·obtain ⟨c,t,rfl⟩:∃ c t,l=c :: t:=by
   cases l with
   | nil=>simp at h5
   | cons c t=>exact ⟨c,t,rfl⟩
  have ht:4≤t.length:=by simp at h5;omega
  have t1:∀ x:List UInt8,qb 1 (c :: x) 0=[c]:=λx=>by unfold qb;rw[if_pos ⟨rfl,by decide,by simp only[List.length_cons];omega⟩];rfl
  have l1:∀ x:List UInt8,qt 1 (c :: x) 0=x:=λx=>by unfold qt;rw[if_pos rfl,if_pos ⟨by decide,by simp only[List.length_cons];omega⟩];rfl
  have e1:∀ x:List UInt8,qq 1 (c :: x) 0=0:=λx=>by unfold qq;rw[if_pos rfl,if_pos ⟨by decide,by simp only[List.length_cons];omega⟩]
  have h9:=jDa 4 0 0 t ht;have hS:∀ x,j0m (c :: x)=rv 4 0 0 x 0:=λx=>by unfold j0m;rw[l1,e1]
  have hE:j21 (c :: t)=(j0m (c :: t)).2.2:=by
   unfold j21;rw[List.take_succ_cons,hS,hS];exact h9.2.1
  refine ⟨hE,λh=>?_⟩;have h8:=h9.2.2 (by rw[hS]at h;exact h);unfold j12;rw[if_pos (hE.trans h),List.take_succ_cons,hS,hS,t1,t1,h9.1]
  congr 1
  simp only[List.length_cons,List.length_take];omega
end Go.Proofs.YtkochkhfbhjicaaGreatDoor
