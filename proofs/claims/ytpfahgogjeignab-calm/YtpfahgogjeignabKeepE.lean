/-
  The keeper's looks: truth, told.
-/
import Derived.Test.YtpfahgogjeignabKeepB
import Derived.Test.YtpfahgogjeignabPlain
set_option linter.unusedVariables false
set_option linter.unusedSimpArgs false
namespace Go.Proofs.Ytpfahgogjeignab
open Go.RowKit
attribute [local go_sem ↓] Go.wp_at_zero Go.wp_at_succ

set_option maxHeartbeats 400000 in
theorem truth_any (b : Bool) (w : World) : Calls Try.prog 43 #[.bool b] w fun e w' => e = .returned (.int .i64 (truthI b)) ∧ w' = w := by
  cases b
  all_goals
    go_enter Try.func43, Try.ntmps43
    go_wp2
    go_ret
    exact ⟨rfl, rfl⟩

/-- The clock lies there. -/
def ClockAt (w : World) (t : Nat) (now : Int) : Prop := BAt w t 38 #[.int .i64 now]

set_option maxHeartbeats 1000000 in
theorem told_not (t : Nat) (k x y z e : Int) (h : k ≠ 1 ∨ e ≠ 0) (w : World) :
    Calls Try.prog 20 #[.pointer (some ⟨t, 0, none⟩), .agg #[.int .i64 k, .int .i64 x, .int .i64 y, .int .i64 z], .int .i64 e] w fun e' w' => e' = .returned (.bool true) ∧ Same w w' := by
  cases h1 : (k != 1)
  · have h2 : (e != 0) = true := by
      simp at h1
      rcases h with h | h
      · exact absurd h1 h
      · simp [h]
    clear h
    go_enter Try.func20, Try.ntmps20
    go_wp2
    go_ret
    exact ⟨rfl, Kept.alloc (Kept.refl _ _) _⟩
  · clear h
    go_enter Try.func20, Try.ntmps20
    go_wp2
    go_ret
    exact ⟨rfl, Kept.alloc (Kept.refl _ _) _⟩

set_option maxHeartbeats 1000000 in
theorem told_pass (t : Nat) (x y z now : Int) (x0 : 0 ≤ x) (x1 : x ≤ 1000000000000 - now) (n0 : 0 ≤ now) (n1 : now ≤ 1000000000000) (w : World) (h : ClockAt w t now) :
    Calls Try.prog 20 #[.pointer (some ⟨t, 0, none⟩), .agg #[.int .i64 1, .int .i64 x, .int .i64 y, .int .i64 z], .int .i64 0] w fun e' w' => e' = .returned (.bool true) ∧ ClockAt w' t (now + x) ∧ Wrote t w w' := by
  have hl := BAt.lt h
  have hb := BAt.alloc h (.cells #[.int .i64 1, .int .i64 x, .int .i64 y, .int .i64 z] 33)
  have hc : w.cell? ⟨t, 0, none⟩ = some (.int .i64 now) := BAt.cell h 0
  have hf := BAt.free hb 0
  have hx : decide (x < 0) = false := decide_eq_false (by omega)
  have hw : IntKind.i64.wrap (1000000000000 - now) = 1000000000000 - now := by rw [IntKind.wrap_i64]; omega
  have hw2 : decide (IntKind.i64.wrap (1000000000000 - now) < x) = false := decide_eq_false (by rw [hw]; omega)
  have hs : IntKind.i64.wrap (now + x) = now + x := by rw [IntKind.wrap_i64]; omega
  clear hw
  go_enter Try.func20, Try.ntmps20
  go_wp2
  go_quiet (fail)
  go_wp2
  go_region
  go_wp2
  go_ret
  refine ⟨rfl, ?_, ?_⟩
  · have := BAt.set hb 0 (.int .i64 (now + x))
    exact this
  · repeat (with_reducible first | refine Kept.drew ?_ | refine Kept.drewN ?_ _ | refine Wrote.set ?_ _ _ | exact Kept.alloc (Kept.refl _ _) _)

theorem node_at (b : Nat) (s : PC) (i : Nat) (hi : i < 2) (w : World) (h : PAt w b s) :
    Calls Try.prog 44 #[.pointer (some ⟨b, 0, none⟩), .int .i64 (i : Int)] w fun e' w' => e' = .returned (.tuple #[.agg #[.bool (s.up i), .int .i64 (s.epoch i), .int .i64 (s.til i), .bool (s.alone i)], .int .i64 0]) ∧ Same w w' := by
  have := node_yes b s (i : Int) (by omega) (by omega) w h
  rw [Int.toNat_natCast] at this
  exact this

end Go.Proofs.Ytpfahgogjeignab
