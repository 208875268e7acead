/-
  The document's leased, wrong, done.
-/
import Derived.Test.YtejcdjnngmljnaaRefG0
set_option linter.unusedVariables false
set_option linter.unusedSimpArgs false
namespace Go.Proofs.Ytejcdjnngmljnaa
open Go.RowKit
attribute [local go_sem] rg0 rg1 rg2 rg3 rg4 rg5 rg6 rg7 rg8 rg9 rg10 sg0 sg1 sg2 sg3 sg4 sg5 mg0 mg1 mg2 mgk fArr_get
attribute [local go_sem ↓] Go.wp_at_zero Go.wp_at_succ

def RS.leased (s : RS) (i : Nat) : Bool := s.up i && decide (s.now < s.stil i)

set_option maxHeartbeats 400000 in
theorem rleased_any (A : RA) (s : RS) (i : Int) (h0 : 0 ≤ i) (h2 : i < 2) (w : World) (h : RAt w A s) :
    Calls Try.prog 93 #[.pointer (some ⟨A.c, 0, none⟩), .int .i64 i] w fun e w' => e = .returned (.bool (s.leased i.toNat)) ∧ ∃ n, w' = w.drewN n := by
  have hC := h.c.cell
  have i2 : i.toNat < 2 := by omega
  have hS := (h.side i.toNat i2).cell
  have hp := h.sp i.toNat i2
  unfold RS.leased
  cases hu : s.up i.toNat
  all_goals
    go_enter Try.func93, Try.ntmps93
    go_wp2
    go_quiet (fail)
    go_wp2
    go_ret
    exact ⟨by simp [hu], _, rfl⟩

/-- The errors that Ask and Wait have in common. -/
def RS.wrong (s : RS) (i k cost : Int) : Int := if isNodeB i then (if 0 ≤ k ∧ k < (s.n : Int) then (if 1 ≤ cost ∧ cost ≤ 2000000 then 0 else 9) else 2) else 4

set_option maxHeartbeats 1000000 in
theorem rwrong_any (A : RA) (s : RS) (i k cost : Int) (w : World) (h : RAt w A s) :
    Calls Try.prog 92 #[.pointer (some ⟨A.c, 0, none⟩), .int .i64 i, .int .i64 k, .int .i64 cost] w fun e w' => e = .returned (.int .i64 (s.wrong i k cost)) ∧ w' = w := by
  have hC := h.c.cell
  cases hi : isNodeB i
  · have e : s.wrong i k cost = 4 := by unfold RS.wrong; rw [if_neg (by simp [hi])]
    rw [e]
    clear e
    go_enter Try.func92, Try.ntmps92
    go_wp2_with (go_at_call 89; refine (rnode_any _ _).mono ?_; rintro e w' ⟨rfl, rfl⟩)
    go_ret
    exact ⟨rfl, rfl⟩
  · by_cases k0 : k < 0
    · have e : s.wrong i k cost = 2 := by unfold RS.wrong; rw [if_pos hi, if_neg (by omega)]
      rw [e]
      clear e
      go_enter Try.func92, Try.ntmps92
      go_wp2_with (go_at_call 89; refine (rnode_any _ _).mono ?_; rintro e w' ⟨rfl, rfl⟩)
      go_ret
      exact ⟨rfl, rfl⟩
    · by_cases k1 : (s.n : Int) ≤ k
      · have e : s.wrong i k cost = 2 := by unfold RS.wrong; rw [if_pos hi, if_neg (by omega)]
        rw [e]
        clear e
        go_enter Try.func92, Try.ntmps92
        go_wp2_with (go_at_call 89; refine (rnode_any _ _).mono ?_; rintro e w' ⟨rfl, rfl⟩)
        go_ret
        exact ⟨rfl, rfl⟩
      · by_cases c0 : cost < 1
        · have e : s.wrong i k cost = 9 := by unfold RS.wrong; rw [if_pos hi, if_pos (by omega), if_neg (by omega)]
          rw [e]
          clear e
          go_enter Try.func92, Try.ntmps92
          go_wp2_with (go_at_call 89; refine (rnode_any _ _).mono ?_; rintro e w' ⟨rfl, rfl⟩)
          go_ret
          exact ⟨rfl, rfl⟩
        · by_cases c1 : 2000000 < cost
          · have e : s.wrong i k cost = 9 := by unfold RS.wrong; rw [if_pos hi, if_pos (by omega), if_neg (by omega)]
            rw [e]
            clear e
            go_enter Try.func92, Try.ntmps92
            go_wp2_with (go_at_call 89; refine (rnode_any _ _).mono ?_; rintro e w' ⟨rfl, rfl⟩)
            go_ret
            exact ⟨rfl, rfl⟩
          · have e : s.wrong i k cost = 0 := by unfold RS.wrong; rw [if_pos hi, if_pos (by omega), if_pos (by omega)]
            rw [e]
            clear e
            go_enter Try.func92, Try.ntmps92
            go_wp2_with (go_at_call 89; refine (rnode_any _ _).mono ?_; rintro e w' ⟨rfl, rfl⟩)
            go_ret
            exact ⟨rfl, rfl⟩

end Go.Proofs.Ytejcdjnngmljnaa
