import Derived.Test.YtbddcogjeahfeaaGreatDoorZLmT
import Derived.Test.YtbddcogjeahfeaaGreatDoorYFI
namespace Go.Proofs.YtbddcogjeahfeaaGreatDoor
open Go.RowKit
set_option linter.unusedVariables false
set_option linter.unusedSimpArgs false
set_option maxRecDepth 100000
def saysB (v : Int) (p : Pk) : Bool := decide (v = 5) && ((decide (p.kind = 1) || decide (p.kind = 2)) && rightP v p)
set_option maxHeartbeats 4000000 in
theorem says_any (v : Int) (p : Pk) (s : Sl) (w : World) (hp : p.At s w) (hF : Fit p) (hT : Tabs w) :
  Calls Tryz.prog 14 #[.int .i64 v, p.val s] w fun e w' => e = .returned (.bool (saysB v p)) ∧ Kept No w w' := by
 let RR : Ending → World → Prop := fun e w' => e = .returned (.bool (saysB v p)) ∧ Kept No w w'
 go_enter Tryz.func14, Tryz.ntmps14
 generalize hA : ({ tmps := _, defers := [] } : Act) = A
 have F : Fr A 22 [(1, (Pk.val p s)), (0, (.int .i64 v))] := by rw [← hA]; exact (Fr.cons (i := 1) (v := (Pk.val p s)) (Fr.cons (i := 0) (v := (.int .i64 v)) (Fr.nil0 rfl rfl) rfl) rfl)
 clear hA; have H := Hp.start w
 refine wp_seq_k (fun K1 hK1 => gx_region ?_)
 refine hz_new (c := (Pk.cells p s)) (t := 38) F H rfl (ex_box rfl (F.e rfl) (gx_box _ _)) ?_; clear F A; intro b2 W A hk hN H9 F; clear H; have H := H9; clear H9
 clear hk hN
 refine zd ?_; intro A F
 refine wpList_nil (hK1 _ _ ?_)
 refine wp_seq_k (fun K3 hK3 => gx_region ?_)
 refine zd ?_; intro A F
 refine zb (rn_eql) ?_; intro A F
 refine zd ?_; intro A F
 iterate 2 (refine zg ?_; intro A F)
 refine zgb (rn_eql) ?_; intro A F
 iterate 3 (refine zg ?_; intro A F)
 refine zgb (rn_eql) ?_; intro A F
 refine zg ?_; intro A F
 refine hz_do F rfl (ex_pickA rfl (F.e rfl) (fun hx => (F.o rfl hx)) rfl) ?_; intro A F
 refine zd ?_; intro A F
 refine zg ?_; intro A F
 refine hz_g F rfl (hw_t F rfl rfl rfl) (fun hG => (ex_load rfl (F.e rfl) (gl_agg ((Pk.cells p s)) rfl (ga_38 _) (gs_38 _) (fun i => H.cs 0 rfl i)))) ?_; intro A F
 refine hz_callg F H rfl (hw_t F rfl rfl rfl) (fun hG => (ex_call rfl rfl (gx_l1 (F.o rfl hG) (gx_l1 (F.o rfl hG) gx_l0)) fn_27)) (fun hG => pkRight_any v p s _ (hp.kept H.k) hF (hT.kept H.k)) ?_; clear F H A; intro W A hk H F
 clear hk
 refine hz_do F rfl (ex_pickA rfl (F.e rfl) (fun hx => (F.o rfl hx)) rfl) ?_; intro A F
 refine zd ?_; intro A F
 refine wpList_nil (hK3 _ _ ?_)
 refine gx_ret ?_
 refine (show bodyPost _ Tryz.f14 RR Exit.ret _ _ from zr ?_)
 exact rb (by unfold saysB; first | rfl | simp [Bool.and_assoc])
end Go.Proofs.YtbddcogjeahfeaaGreatDoor
