/-
  works: one of its calls.
-/
import Derived.Test.YtilffakkmjdmnaaLawI
import Derived.Test.YtilffakkmjdmnaaLawH
set_option linter.unusedVariables false
set_option linter.unusedSimpArgs false
namespace Go.Proofs.Ytilffakkmjdmnaa
open Go.RowKit
attribute [local go_sem ↓] Go.wp_at_zero Go.wp_at_succ

set_option maxRecDepth 100000 in
set_option maxHeartbeats 1000000 in
theorem works_join (m B0 p b : Nat) (A : RA) (s : PC) (r : RS) (x y z : Int) (hm : (m + 1) * 24 ≤ 140737488355328) (w : World) (hL : Live m B0 w p b A s r) :
    Calls Try.prog 36 #[.pointer (some ⟨p, 0, none⟩), .agg #[.int .i64 7, .int .i64 x, .int .i64 y, .int .i64 z]] w fun e w' => e = .returned (.bool true) ∧ (∃ A' s' r', Live (m + 1) B0 w' p b A' s' r') ∧ Below B0 w w' := by
  obtain ⟨v, c, s', r', hB⟩ := join_both hL.sim b x (fun j q => Nat.le_trans (Nat.mul_le_mul_right 24 (Nat.succ_le_succ (hL.len j q))) hm)
  clear hm
  have hL1 := hL.same ((Kept.refl _ _).alloc (.cells #[.int .i64 7, .int .i64 x, .int .i64 y, .int .i64 z] 30))
  have hbel : Below B0 w (w.alloc (.cells #[.int .i64 7, .int .i64 x, .int .i64 y, .int .i64 z] 30)) := (Below.refl _ _).alloc hL.base _
  have hl := hL.pair.hp.lt
  have hc0 : w.cell? ⟨p, 0, none⟩ = some (.pointer (some ⟨b, 0, none⟩)) := hL.pair.hp.cell 0
  have hpb := hL.pair.pb
  go_enter Try.func36, Try.ntmps36
  go_wp2_with fail
  go_cut [5, 7] from 9 (fun v1 c1 wx => v1 = .int .i64 v ∧ c1 = .int .i64 c ∧ PAt wx b s' ∧ Wrote b (w.alloc (.cells #[.int .i64 7, .int .i64 x, .int .i64 y, .int .i64 z] 30)) wx)
  case first =>
    go_region_with (go_at_call 49; refine (hB.pd _ (PAt.drew hL1.pair.hc)).mono ?_; rintro e w3 ⟨rfl, hc3, hk3⟩)
    all_goals go_wp2_with fail
    all_goals go_meet
    all_goals exact ⟨rfl, rfl, hc3, Kept.trans (Kept.drew (Kept.refl _ _)) hk3⟩
  case rest =>
    obtain ⟨rfl, rfl, hc3, hk3⟩ := hcut
    have hp3 := hL1.pair.wrote hk3 hc3
    have hl3 := hp3.hp.lt
    have hc13 : wc.cell? ⟨p, 1, none⟩ = some (.pointer (some ⟨A.c, 0, none⟩)) := hp3.hp.cell 1
    have ho3 : BAt wc w.heap.size 30 #[.int .i64 7, .int .i64 x, .int .i64 y, .int .i64 z] := (BAt.made' _ _ rfl _ _).kept hk3 (by have := hL.pair.hc.lt; omega)
    have ho31 : wc.cell? ⟨w.heap.size, 1, none⟩ = some (.int .i64 x) := ho3.cell 1
    go_wp2_with fail
    go_region_with (go_at_call 76; refine (hB.rd _ A (RAt.drewN hp3.hr 1)).mono ?_; rintro e w4 ⟨rfl, A', hr4, st4⟩)
    all_goals go_wp2_with fail
    all_goals go_ret
    all_goals
      obtain ⟨hL2, hb2⟩ := hL1.both (Kept.drew hk3) (PAt.drew hc3) st4 hr4 hB.n hB.sim hB.len
      exact ⟨rfl, ⟨A', s', r', hL2⟩, hbel.trans hb2⟩

end Go.Proofs.Ytilffakkmjdmnaa
