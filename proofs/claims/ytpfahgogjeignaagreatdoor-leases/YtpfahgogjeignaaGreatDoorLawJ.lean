/-
  works where it campaigns; step.
-/
import Derived.Test.YtpfahgogjeignaaGreatDoorLawIa
import Derived.Test.YtpfahgogjeignaaGreatDoorLawIf
import Derived.Test.YtpfahgogjeignaaGreatDoorLawG
set_option linter.unusedVariables false
set_option linter.unusedSimpArgs false
namespace Go.Proofs.YtpfahgogjeignaaGreatDoor
open Go.RowKit
attribute [local go_sem ↓] Go.wp_at_zero Go.wp_at_succ

theorem moves_all (m B0 p b : Nat) (A : RA) (s : PC) (r : RS) (k x y z : Int) (hk : 1 ≤ k) (hk2 : k ≤ 4) (w : World) (hL : Live m B0 w p b A s r) :
    Calls Tryz.prog 18 #[.pointer (some ⟨p, 0, none⟩), .agg #[.int .i64 k, .int .i64 x, .int .i64 y, .int .i64 z]] w fun e w' => e = .returned (.bool true) ∧ (∃ A' s' r', Live (m + 1) B0 w' p b A' s' r' ∧ r'.n = r.n ∧ Stepped p b b r.n A A' w w') ∧ Below B0 w w' := by
  rcases (by omega : k = 1 ∨ k = 2 ∨ k = 3 ∨ k = 4) with rfl | rfl | rfl | rfl
  · exact moves_pass m B0 p b A s r x y z w hL
  · exact moves_link m B0 p b A s r x y z w hL
  · exact moves_crash m B0 p b A s r x y z w hL
  · exact moves_start m B0 p b A s r x y z w hL

set_option maxRecDepth 100000 in
set_option maxHeartbeats 1000000 in
theorem step_any (m B0 p b : Nat) (A : RA) (s : PC) (r : RS) (k x y z : Int) (hm : (m + 1) * 24 ≤ 140737488355328) (h13 : k ≠ 13) (w : World) (hL : Live m B0 w p b A s r) :
    Calls Tryz.prog 13 #[.pointer (some ⟨p, 0, none⟩), .agg #[.int .i64 k, .int .i64 x, .int .i64 y, .int .i64 z]] w fun e w' => e = .returned (.bool true) ∧ (∃ A' s' r', Live (m + 1) B0 w' p b A' s' r' ∧ r'.n = r.n ∧ Stepped p b b r.n A A' w w') ∧ Below B0 w w' := by
  by_cases ht : 9 ≤ k ∧ k ≤ 12
  · refine (step_tells p b A s r k x y z ht.1 ht.2 w hL.pair hL.sim).mono ?_
    rintro e w' ⟨rfl, hS⟩
    exact ⟨rfl, ⟨A, s, r, (hL.same hS).later, rfl, Stepped.same p b r.n A hS⟩, hS.below hL.base (fun _ _ h => h)⟩
  have hL1 : ∀ o, Live m B0 (w.alloc o) p b A s r := fun o => hL.same ((Kept.refl _ _).alloc o)
  have hbel : ∀ o, Below B0 w (w.alloc o) := fun o => (Below.refl _ _).alloc hL.base _
  have HL : Hid (∀ o, Live m B0 (w.alloc o) p b A s r) := hL1
  have HB : Hid (∀ o, Below B0 w (w.alloc o)) := hbel
  clear hL1 hbel
  by_cases hmm : 1 ≤ k ∧ k ≤ 4
  · obtain ⟨m1, m2⟩ := hmm
    clear hm
    rcases (by omega : k = 1 ∨ k = 2 ∨ k = 3 ∨ k = 4) with rfl | rfl | rfl | rfl
    all_goals
      go_enter Tryz.func13, Tryz.ntmps13
      go_wp2_with (go_at_call 18; refine (moves_all m B0 p b A s r _ x y z (by omega) (by omega) _ (HL.out _)).mono ?_; rintro e w3 ⟨rfl, ⟨A3, s3, r3, hL3, hn3, st3⟩, hb3⟩)
      go_ret
      exact ⟨rfl, ⟨A3, s3, r3, hL3, hn3, st3.before ((Kept.refl _ _).alloc _)⟩, (HB.out _).trans hb3⟩
  by_cases hk5 : k = 5
  · subst hk5
    clear hm
    go_enter Tryz.func13, Tryz.ntmps13
    go_wp2_with (go_at_call 19; refine (works_campaign m B0 p b A s r x y z _ (HL.out _)).mono ?_; rintro e w3 ⟨rfl, ⟨A3, s3, r3, hL3, hn3, st3⟩, hb3⟩)
    go_ret
    exact ⟨rfl, ⟨A3, s3, r3, hL3, hn3, st3.before ((Kept.refl _ _).alloc _)⟩, (HB.out _).trans hb3⟩
  by_cases hk6 : k = 6
  · subst hk6
    have HM : Hid ((m + 1) * 24 ≤ 140737488355328) := hm
    clear hm
    go_enter Tryz.func13, Tryz.ntmps13
    go_wp2_with (go_at_call 19; refine (works_ask m B0 p b A s r x y z HM.out _ (HL.out _)).mono ?_; rintro e w3 ⟨rfl, ⟨A3, s3, r3, hL3, hn3, st3⟩, hb3⟩)
    go_ret
    exact ⟨rfl, ⟨A3, s3, r3, hL3, hn3, st3.before ((Kept.refl _ _).alloc _)⟩, (HB.out _).trans hb3⟩
  by_cases hk7 : k = 7
  · subst hk7
    have HM : Hid ((m + 1) * 24 ≤ 140737488355328) := hm
    clear hm
    go_enter Tryz.func13, Tryz.ntmps13
    go_wp2_with (go_at_call 19; refine (works_join m B0 p b A s r x y z HM.out _ (HL.out _)).mono ?_; rintro e w3 ⟨rfl, ⟨A3, s3, r3, hL3, hn3, st3⟩, hb3⟩)
    go_ret
    exact ⟨rfl, ⟨A3, s3, r3, hL3, hn3, st3.before ((Kept.refl _ _).alloc _)⟩, (HB.out _).trans hb3⟩
  clear hm
  by_cases hk8 : k = 8
  · subst hk8
    go_enter Tryz.func13, Tryz.ntmps13
    go_wp2_with (go_at_call 19; refine (works_wait m B0 p b A s r x y z _ (HL.out _)).mono ?_; rintro e w3 ⟨rfl, ⟨A3, s3, r3, hL3, hn3, st3⟩, hb3⟩)
    go_ret
    exact ⟨rfl, ⟨A3, s3, r3, hL3, hn3, st3.before ((Kept.refl _ _).alloc _)⟩, (HB.out _).trans hb3⟩
  have e1 : (k == 1) = false := by simp; omega
  have e2 : (k == 2) = false := by simp; omega
  have e3 : (k == 3) = false := by simp; omega
  have e4 : (k == 4) = false := by simp; omega
  have e5 : (k == 5) = false := by simp; omega
  have e6 : (k == 6) = false := by simp [hk6]
  have e7 : (k == 7) = false := by simp [hk7]
  have e8 : (k == 8) = false := by simp [hk8]
  have e9 : (k == 9) = false := by simp; omega
  have e10 : (k == 10) = false := by simp; omega
  have e11 : (k == 11) = false := by simp; omega
  have e12 : (k == 12) = false := by simp; omega
  have e13 : (k == 13) = false := by simp [h13]
  clear ht hmm hk5 hk6 hk7 hk8 h13
  go_enter Tryz.func13, Tryz.ntmps13
  go_wp2
  go_ret
  exact ⟨rfl, ⟨A, s, r, (HL.out _).later, rfl, Stepped.same p b r.n A ((Kept.refl _ _).alloc _)⟩, HB.out _⟩

end Go.Proofs.YtpfahgogjeignaaGreatDoor
