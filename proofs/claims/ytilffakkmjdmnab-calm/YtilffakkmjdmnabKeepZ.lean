/-
  How the time goes on, and who has a lease: plain reckoning.
-/
import Derived.Test.YtilffakkmjdmnabKeepI
set_option linter.unusedVariables false
set_option linter.unusedSimpArgs false
namespace Go.Proofs.Ytilffakkmjdmnab
open Go.RowKit

/-- How the time goes on. -/
theorem campaigned_now (s : PC) (i : Int) : (s.campaigned i).2.now = s.now := by
  have hg : (s.granted i).now = s.now := by
    unfold PC.granted
    split <;> rfl
  unfold PC.campaigned
  split
  · split
    · split
      · exact hg
      · exact hg
    · rfl
  · rfl
theorem joined_now (s : PC) (i : Nat) : (s.joined i).2.now = s.now := by
  unfold PC.joined PC.joinEnd
  split
  · split
    · dsimp only
      split <;> rfl
    · dsimp only
      split <;> rfl
  · rfl
theorem join_now (s : PC) (i : Int) : (s.joinR i).2.now = s.now := by
  unfold PC.joinR
  split
  · split
    · exact joined_now s _
    · rfl
  · rfl
theorem call_now (s : PC) (k x y z : Int) (h : ¬ (k = 1 ∧ (s.call k x y z).1.e = 0)) : (s.call k x y z).2.now = s.now := by
  by_cases hk : k < 1 ∨ 12 < k
  · have e : s.call k x y z = (⟨0, 0, 0, 0, 0⟩, s) := by
      unfold PC.call
      rw [if_neg (by omega), if_neg (by omega), if_neg (by omega), if_neg (by omega), if_neg (by omega), if_neg (by omega), if_neg (by omega), if_neg (by omega), if_neg (by omega), if_neg (by omega), if_neg (by omega), if_neg (by omega)]
    rw [e]
  · rcases (by omega : k = 1 ∨ k = 2 ∨ k = 3 ∨ k = 4 ∨ k = 5 ∨ k = 6 ∨ k = 7 ∨ k = 8 ∨ k = 9 ∨ k = 10 ∨ k = 11 ∨ k = 12) with rfl | rfl | rfl | rfl | rfl | rfl | rfl | rfl | rfl | rfl | rfl | rfl
    · have h' : ¬ (s.passR x).1 = 0 := fun e => h ⟨rfl, e⟩
      show (s.passR x).2.now = s.now
      unfold PC.passR at h' ⊢
      split
      · rfl
      · rename_i hn
        rw [if_neg hn] at h'
        exact absurd rfl h'
    · show (s.linkR x y z).2.now = s.now
      unfold PC.linkR
      split <;> rfl
    · show (s.crashR x).2.now = s.now
      unfold PC.crashR
      split
      · split <;> rfl
      · rfl
    · show (s.startR x).2.now = s.now
      unfold PC.startR
      split
      · split <;> rfl
      · rfl
    · show (s.campR x).2.now = s.now
      unfold PC.campR
      split
      · split
        · exact campaigned_now s x
        · rfl
      · rfl
    · show (s.askR x y z).2.now = s.now
      unfold PC.askR
      split
      · split
        · exact (asked_who s _ _ _).2.2.1
        · rfl
      · rfl
    · exact join_now s x
    · rfl
    · rfl
    · rfl
    · rfl
    · rfl
theorem call_pass (s : PC) (x y z : Int) (h : (s.call 1 x y z).1.e = 0) : 0 ≤ x ∧ x ≤ 1000000000000 - s.now ∧ (s.call 1 x y z).2.now = s.now + x := by
  have h' : (s.passR x).1 = 0 := h
  show 0 ≤ x ∧ x ≤ 1000000000000 - s.now ∧ (s.passR x).2.now = s.now + x
  unfold PC.passR at h' ⊢
  by_cases hn : x < 0 ∨ 1000000000000 - s.now < x
  · rw [if_pos hn] at h'; cases h'
  · rw [if_neg hn]
    exact ⟨by omega, by omega, rfl⟩
/-- A request that was answered: who has a lease behind it. -/
theorem call_ask (s : PC) (x y z : Int) (h : (s.call 6 x y z).1.e = 0) : isNodeB x = true ∧ ((s.call 6 x y z).1.a = 4 ↔ (s.call 6 x y z).2.hasLease x.toNat = false) := by
  have h' : (s.askR x y z).1.2 = 0 := h
  show isNodeB x = true ∧ ((s.askR x y z).1.1 = 4 ↔ (s.askR x y z).2.hasLease x.toNat = false)
  unfold PC.askR at h' ⊢
  by_cases hw : s.wrong x y z = 0
  · rw [if_pos hw] at h' ⊢
    refine ⟨(pwrong_bd hw).1, ?_⟩
    cases hu : s.up x.toNat
    · rw [hu] at h'
      cases h'
    · have ha := asked_who s x.toNat y.toNat z
      show (s.asked x.toNat y.toNat z).1 = 4 ↔ (s.asked x.toNat y.toNat z).2.hasLease x.toNat = false
      have e : (s.asked x.toNat y.toNat z).2.hasLease x.toNat = s.hasLease x.toNat := by
        unfold PC.hasLease
        rw [ha.1, ha.2.1, ha.2.2.1]
      rw [e]
      exact ha.2.2.2
  · rw [if_neg hw] at h'
    exact absurd h' hw

end Go.Proofs.Ytilffakkmjdmnab
