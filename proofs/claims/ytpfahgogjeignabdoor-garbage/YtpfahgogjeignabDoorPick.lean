/-
  Which of some things a raw number speaks of.
-/
import Derived.Test.YtpfahgogjeignabDoorProA
set_option linter.unusedVariables false
set_option linter.unusedSimpArgs false
namespace Go.Proofs.YtpfahgogjeignabDoor
open Go.RowKit

/-- Which of n things a raw number speaks of. -/
def pickOf (c n : Int) : Int := (if c < 0 then -(c + 1) else c) % n
theorem pickOf_bd {c n : Int} (n0 : 0 < n) : 0 ≤ pickOf c n ∧ pickOf c n < n :=
  ⟨Int.emod_nonneg _ (by omega), Int.emod_lt_of_pos _ n0⟩

set_option maxHeartbeats 1000000 in
theorem pick_any (c n : Int) (c0 : -9223372036854775808 ≤ c) (c1 : c ≤ 9223372036854775807) (n0 : 0 < n) (n1 : n ≤ 2000000) (w : World) :
    Calls Tryd.prog 10 #[.int .i64 c, .int .i64 n] w fun e w' => e = .returned (.int .i64 (pickOf c n)) ∧ w' = w := by
  have hz : (n == 0) = false := by simp; omega
  by_cases h : c < 0
  · have e : pickOf c n = -((c + 1).tmod n) := by
      unfold pickOf
      rw [if_pos h, ← Int.neg_tmod, Int.tmod_eq_emod_of_nonneg (by omega)]
    have HE : Hid (pickOf c n = -((c + 1).tmod n)) := e
    clear e
    go_enter Tryd.func10, Tryd.ntmps10
    go_wp2
    go_ret
    exact ⟨by rw [HE.out]; rfl, rfl⟩
  · have e : pickOf c n = c % n := by unfold pickOf; rw [if_neg h]
    have HE : Hid (pickOf c n = c % n) := e
    clear e
    go_enter Tryd.func10, Tryd.ntmps10
    go_wp2
    go_ret
    exact ⟨by rw [HE.out]; rfl, rfl⟩

end Go.Proofs.YtpfahgogjeignabDoor
