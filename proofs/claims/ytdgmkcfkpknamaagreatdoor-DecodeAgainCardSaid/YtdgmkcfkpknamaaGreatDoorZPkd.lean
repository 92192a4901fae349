/-
  Of few bytes few properties are decoded: plain.
-/
import Derived.Test.YtdgmkcfkpknamaaGreatDoorYJ1
namespace Go.Proofs.YtdgmkcfkpknamaaGreatDoor
open Go.RowKit
set_option linter.unusedVariables false
set_option linter.unusedSimpArgs false
set_option maxRecDepth 100000
theorem sec_le9 (v : Int) (S : Ts) : (S.sec v).length ≤ S.l.length := by
  unfold Ts.sec
  split
  · exact Nat.zero_le _
  · exact takeR_len9 _ _
theorem rdT_le9 (S : Ts) : S.rdT.l.length ≤ S.l.length := (eats_rdT S).le
theorem few_short (v : Int) (p : Pk) (S : Ts) (n : Nat) (hp : p.props.length ≤ n ∧ p.willProps.length ≤ n) (hn : S.l.length ≤ n) : (shortK v p S).1.props.length ≤ n ∧ (shortK v p S).1.willProps.length ≤ n := by
  have h1 := sec_le9 v (S.rd 1)
  have h2 := rd_le 1 S
  unfold shortK
  split
  · exact hp
  · split
    · exact hp
    · exact ⟨by dsimp only; omega, hp.2⟩
theorem few_conn (v : Int) (S : Ts) : (connK v S).1.props.length ≤ S.l.length ∧ (connK v S).1.willProps.length ≤ S.l.length := by
  have h0 := conF_le v S
  unfold connK
  dsimp only
  generalize conF v S = s2 at h0 ⊢
  have h1 : ((s2.rd 1).need (decide (s2.num 1 &&& 1 = 0))).l.length ≤ s2.l.length := rd_le 1 s2
  generalize (s2.rd 1).need (decide (s2.num 1 &&& 1 = 0)) = s3 at h1 ⊢
  have h2 := rd_le 2 s3
  have h3 := sec_le9 v (s3.rd 2)
  have h4 := rdS_le v (s3.rd 2)
  have h5 := rdT_le9 ((s3.rd 2).rdS v)
  have h6 := sec_le9 v ((s3.rd 2).rdS v).rdT
  generalize (s3.rd 2).sec v = L at h3 ⊢
  generalize ((s3.rd 2).rdS v).rdT = s6 at h5 h6 ⊢
  generalize (s3.rd 2).rdS v = s5 at h4 h5 ⊢
  generalize s2.num 1 = f
  have P : ∀ (q : Pk) (s : Ts), (passK f q s).1.props = q.props ∧ (passK f q s).1.willProps = q.willProps := fun q s => by unfold passK; split <;> exact ⟨rfl, rfl⟩
  have U : ∀ (q : Pk) (s : Ts), (userK f q s).1.props = q.props ∧ (userK f q s).1.willProps = q.willProps := fun q s => by unfold userK; split <;> exact ⟨rfl, rfl⟩
  rw [(P _ _).1, (P _ _).2, (U _ _).1, (U _ _).2]
  unfold willK
  split
  · exact ⟨by dsimp only; omega, by dsimp only; omega⟩
  · exact ⟨by dsimp only; omega, Nat.zero_le _⟩
theorem few_fields (v k : Int) (f : Nat) (S : Ts) : (fieldsK v k f S).1.props.length ≤ S.l.length ∧ (fieldsK v k f S).1.willProps.length ≤ S.l.length := by
  have a1 := rd_le 2 S
  have a2 := sec_le9 v (S.rd 2)
  unfold fieldsK
  split
  · exact few_conn v S
  split
  · have h1 : ((S.rd 1).need (decide (S.num 1 ≤ 1))).l.length ≤ S.l.length := rd_le 1 S
    have h2 := rd_le 1 ((S.rd 1).need (decide (S.num 1 ≤ 1)))
    have h3 := sec_le9 v (((S.rd 1).need (decide (S.num 1 ≤ 1))).rd 1)
    exact ⟨Nat.le_trans h3 (Nat.le_trans h2 h1), Nat.zero_le _⟩
  split
  · unfold publK
    dsimp only
    have h1 := rdT_le9 S
    have h2 : (if (f / 2 &&& 3) = 0 then S.rdT else S.rdT.rd 2).l.length ≤ S.l.length := by
      split
      · exact h1
      · exact Nat.le_trans (rd_le _ _) h1
    exact ⟨Nat.le_trans (sec_le9 v _) h2, Nat.zero_le _⟩
  split
  · exact few_short v _ _ _ ⟨Nat.zero_le _, Nat.zero_le _⟩ a1
  split
  · exact ⟨Nat.le_trans a2 a1, Nat.zero_le _⟩
  split
  · exact ⟨Nat.le_trans a2 a1, Nat.zero_le _⟩
  split
  · exact few_short v _ _ _ ⟨Nat.zero_le _, Nat.zero_le _⟩ (Nat.le_refl _)
  · exact ⟨Nat.zero_le _, Nat.zero_le _⟩
theorem few_dec (v : Int) (l : List UInt8) : (decP v l).props.length ≤ l.length ∧ (decP v l).willProps.length ≤ l.length := by
  unfold decP formP formS
  split
  · split
    · have h := few_fields v (headB l).kind (headB l).flags ⟨l.drop (headB l).head.toNat, 0, false⟩
      have e : (l.drop (headB l).head.toNat).length ≤ l.length := by rw [List.length_drop]; omega
      exact ⟨Nat.le_trans h.1 e, Nat.le_trans h.2 e⟩
    · exact ⟨Nat.zero_le _, Nat.zero_le _⟩
  · exact ⟨Nat.zero_le _, Nat.zero_le _⟩
end Go.Proofs.YtdgmkcfkpknamaaGreatDoor
