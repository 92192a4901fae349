/-
  FramerMost's packet, as plain data.
-/
import Derived.Test.YtdeecgmihfakgaaGreatDoorZFrZ
import Derived.Test.YtdeecgmihfakgaaGreatDoorYG7
namespace Go.Proofs.YtdeecgmihfakgaaGreatDoor
open Go.RowKit
set_option linter.unusedVariables false
set_option linter.unusedSimpArgs false
set_option maxRecDepth 100000

def qm (k : Nat) : Pk := { zk 3 with topic := ⟨#[116]⟩, load := ⟨(zm k).toArray⟩ }
theorem qm_load (k : Nat) : (qm k).load.size = k := by show (⟨(zm k).toArray⟩ : ByteArray).size = k; rw [ba_size]; exact zm_len k
theorem qm_fit {k : Nat} (h : k < 70000) : Fit (qm k) := by
  have hl := qm_load k
  exact ⟨⟨Nat.zero_le _, Nat.zero_le _, Nat.zero_le _, Nat.zero_le _⟩, ⟨by simp [qm, zk], by simp [qm, zk]⟩, ⟨Nat.zero_le _, Nat.zero_le _, Nat.zero_le _, Nat.zero_le _, Nat.zero_le _, (show (1 : Nat) ≤ _ by decide), by omega, Nat.zero_le _, Nat.zero_le _, Nat.zero_le _, Nat.zero_le _, by simp [qm, zk], by simp [qm, zk], by simp [qm, zk]⟩, (show (0 : Nat) < _ by decide), (show (0 : Nat) < _ by decide), (show (0 : Nat) < _ by decide), (show (0 : Nat) < _ by decide), (show (0 : Nat) < _ by decide), by simp [qm, zk]⟩
theorem qm_rest (v : Int) (k : Nat) : restN v (qm k) = 2 + 1 + 0 + secN v [] + k := by
  unfold restN
  rw [if_neg (show ¬ (qm k).kind = 1 from (by decide : ¬ (3 : Int) = 1)), if_neg (show ¬ (qm k).kind = 2 from (by decide : ¬ (3 : Int) = 2)), if_pos (show (qm k).kind = 3 from rfl), qm_load]
  rfl
theorem qm_restk {k : Nat} (m : Nat) (hk : k < 2) : restN (4 + (k : Int)) (qm m) = 3 + m + k := by
  have : k = 0 ∨ k = 1 := by omega
  rcases this with rfl | rfl
  · show restN 4 (qm m) = _
    rw [qm_rest, show secN 4 [] = 0 from by decide +kernel]
    omega
  · show restN 5 (qm m) = _
    rw [qm_rest, show secN 5 [] = 1 from by decide +kernel]
    omega
theorem qm_bare (k : Nat) : qm k = bareP (qm k) := by kernel_rfl
theorem qm_right9 {v : Int} {k : Nat} (hv : v = 4 ∨ v = 5) (h : k < 70000) (hr : restN v (qm k) ≤ 268435455) : rightP v (qm k) = true := by
  unfold rightP
  rw [decide_eq_true (qm_bare k), decide_eq_true hr]
  rcases hv with rfl | rfl
  · kernel_rfl
  · kernel_rfl
theorem qm_right {k m : Nat} (hk : k < 2) (h : m < 70000) : rightP (4 + (k : Int)) (qm m) = true := qm_right9 (by omega) h (by rw [qm_restk m hk]; omega)
theorem qm_lays (v : Int) (k : Nat) : Lays9 v (qm k) := by
  exact ⟨.inr ⟨_, rfl⟩, .inr ⟨_, rfl⟩, fun _ => rfl, fun _ => rfl⟩
theorem qm_canon (k : Nat) : canon (qm k) = qm k := by
  unfold canon
  have e1 : sortL (qm k).props = (qm k).props := by kernel_rfl
  have e2 : sortL (qm k).willProps = (qm k).willProps := by kernel_rfl
  rw [e1, e2]
/-- What is behind its header. -/
def rstM (k m : Nat) : List UInt8 := [0, 1, 116] ++ (if k = 1 then [0] else []) ++ zm m
theorem rstM_len {k : Nat} (m : Nat) (hk : k < 2) : (rstM k m).length = 3 + m + k := by
  have : k = 0 ∨ k = 1 := by omega
  rcases this with rfl | rfl
  · simp [rstM, zm]; omega
  · simp [rstM, zm]; omega
theorem qm_enc {k m : Nat} (hk : k < 2) (h : m < 70000) : encL (4 + (k : Int)) (qm m) = 48 :: (var7 (3 + m + k) ++ rstM k m) := by
  have hL : encL (4 + (k : Int)) (qm m) = by1 (16 * 3 + flagsN (qm m)) ++ varL (behB (4 + (k : Int)) (qm m)).length ++ behB (4 + (k : Int)) (qm m) := if_pos (qm_right hk h)
  rw [behB_len _ _ (qm_fit h).wf, qm_restk m hk, show by1 (16 * 3 + flagsN (qm m)) = [48] from by kernel_rfl, show varL (3 + m + k) = var7 (3 + m + k) from if_pos (by omega)] at hL
  have hB : behB (4 + (k : Int)) (qm m) = rstM k m := by
    have e : behB (4 + (k : Int)) (qm m) = binBy (qm m).topic ++ [] ++ secB (4 + (k : Int)) [] ++ zm m := rfl
    rw [e, show binBy (qm m).topic = [0, 1, 116] from by kernel_rfl]
    have : k = 0 ∨ k = 1 := by omega
    rcases this with rfl | rfl
    · rw [show secB (4 + ((0 : Nat) : Int)) [] = [] from by kernel_rfl]; rfl
    · rw [show secB (4 + ((1 : Nat) : Int)) [] = [0] from by kernel_rfl]; rfl
  rw [hL, hB]
  simp
section
variable {k m : Nat} {M : Int} (hk : k < 2) (hm : m < 1000)
include hk hm
theorem most_1 : feedS (4 + (k : Int)) M ⟨false, [], 0⟩ (48 :: var7 (3 + m + k)) = ([], ⟨false, if M < ((48 :: (var7 (3 + m + k) ++ rstM k m)).length : Int) then [] else 48 :: var7 (3 + m + k), if M < ((48 :: (var7 (3 + m + k) ++ rstM k m)).length : Int) then 5 else 0⟩) := by
  have hR := rstM_len m hk
  have hB : ((48 :: (var7 (3 + m + k) ++ rstM k m)).length : Int) = ((48 :: var7 (3 + m + k)).length : Int) + ((3 + m + k : Nat) : Int) := by simp only [List.length_cons, List.length_append, hR]; omega
  rw [hB]
  obtain ⟨he, hb⟩ := hold_head (size := 3 + m + k) (by omega)
  generalize hn : 3 + m + k = n at *
  have h1 : 1 ≤ n := by omega
  generalize hl : 48 :: var7 n = l at *
  have e0 : feedS (4 + (k : Int)) M ⟨false, [], 0⟩ l = ((feedG (4 + (k : Int)) M l.length false l).1, ⟨false && (feedG (4 + (k : Int)) M l.length false l).1.isEmpty, (feedG (4 + (k : Int)) M l.length false l).2.1, (feedG (4 + (k : Int)) M l.length false l).2.2⟩) := if_neg (fun q => q rfl)
  rw [e0]
  by_cases hM : M < (l.length : Int) + (n : Int)
  · have hN : nextE (4 + (k : Int)) M false l = 5 := nextE_2 hb he hM
    rw [feedG_bad (by rw [hN]; decide) (by rw [hN]; decide) (Nat.le_refl _), hN, if_pos hM, if_pos hM]
    rfl
  · have hN : nextE (4 + (k : Int)) M false l = 2 := nextE_4 hb he hM (fun q => by cases q.1) (by show (l.length : Int) < (l.length : Int) + (n : Int); omega)
    rw [feedG_wait _ hN, if_neg hM, if_neg hM]
    rfl
theorem most_2 (hM : ¬ M < ((48 :: (var7 (3 + m + k) ++ rstM k m)).length : Int)) : feedS (4 + (k : Int)) M ⟨false, 48 :: var7 (3 + m + k), 0⟩ (rstM k m) = ([(qm m, 48 :: (var7 (3 + m + k) ++ rstM k m))], ⟨false, [], 0⟩) := by
  have hr := qm_right hk (show m < 70000 by omega)
  have hF := qm_fit (show m < 70000 by omega)
  have hE := qm_enc hk (show m < 70000 by omega)
  obtain ⟨h1, h2, h3, h4⟩ := enc_hd hr hF
  obtain ⟨d1, d2⟩ := dec_back hr hF (qm_lays _ _) (qm_canon m)
  have e0 : feedS (4 + (k : Int)) M ⟨false, 48 :: var7 (3 + m + k), 0⟩ (rstM k m) = ((feedG (4 + (k : Int)) M ((48 :: var7 (3 + m + k)) ++ rstM k m).length false ((48 :: var7 (3 + m + k)) ++ rstM k m)).1, ⟨false && (feedG (4 + (k : Int)) M ((48 :: var7 (3 + m + k)) ++ rstM k m).length false ((48 :: var7 (3 + m + k)) ++ rstM k m)).1.isEmpty, (feedG (4 + (k : Int)) M ((48 :: var7 (3 + m + k)) ++ rstM k m).length false ((48 :: var7 (3 + m + k)) ++ rstM k m)).2.1, (feedG (4 + (k : Int)) M ((48 :: var7 (3 + m + k)) ++ rstM k m).length false ((48 :: var7 (3 + m + k)) ++ rstM k m)).2.2⟩) := if_neg (fun q => q rfl)
  rw [e0, List.cons_append]
  rw [← hE] at hM ⊢
  generalize hl : encL (4 + (k : Int)) (qm m) = l at *
  have hlen : ((1 + (varL (restN (4 + (k : Int)) (qm m))).length : Nat) : Int) + ((restN (4 + (k : Int)) (qm m) : Nat) : Int) = (l.length : Int) := by rw [h4]; omega
  have hnN : nextN l = l.length := by
    unfold nextN
    rw [h2]
    show (((1 + (varL (restN (4 + (k : Int)) (qm m))).length : Nat) : Int) + ((restN (4 + (k : Int)) (qm m) : Nat) : Int)).toNat = l.length
    rw [hlen]; omega
  have hN : nextE (4 + (k : Int)) M false l = 0 := by
    rw [nextE_5 h2 h1 (by show ¬ M < ((1 + (varL (restN (4 + (k : Int)) (qm m))).length : Nat) : Int) + ((restN (4 + (k : Int)) (qm m) : Nat) : Int); rw [hlen]; exact hM) (fun q => by cases q.1) (by show ¬ (l.length : Int) < ((1 + (varL (restN (4 + (k : Int)) (qm m))).length : Nat) : Int) + ((restN (4 + (k : Int)) (qm m) : Nat) : Int); rw [hlen]; omega), hnN, List.take_length]
    exact d1
  obtain ⟨n, hn⟩ : ∃ n, l.length = n + 1 := ⟨l.length - 1, by omega⟩
  have hg : feedG (4 + (k : Int)) M l.length false l = ([(qm m, l)], [], 0) := by
    rw [hn, feedG_go hN, hnN, List.take_length, List.drop_length, d2, feedG_wait n nextE_nil]
  rw [hg]
  rfl
end
end Go.Proofs.YtdeecgmihfakgaaGreatDoor
