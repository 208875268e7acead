/-
  The program's lease: messages, the witness's side, the node's side, Campaign.
-/
import Derived.Test.YtpfahgogjeignabDoorProA
set_option linter.unusedVariables false
set_option linter.unusedSimpArgs false
namespace Go.Proofs.YtpfahgogjeignabDoor
open Go.RowKit
attribute [local go_sem] pcg0 pcg1 pcg2 pcg3 pcg4 pcg5 pcg6 pcg7 pcg8 pcg9 pcg10 pcg11 pcg12 pcg13 pcg14 pcg15 pcg16 pcg17 pcg18 pcg19 pcg20 pcg21 pcg22 pcg23 pcg24 pcg25 pcg26 pcg27 pcg28 pcg29 pcg30 pcg31 pcg32 pcg33 pcg34 pcg35 pcg36 pcg37 pcg38 pcg39 pcg40 pcg41 pcg42
attribute [local go_sem] pcgRate pcgBurst pcgLink pcgUp pcgEpoch pcgTil pcgAlone pcgLev pcgWin

/-- A message from i to j: does it arrive? -/
def PC.arrives (s : PC) (i j : Nat) : Bool := !(s.link (i + j - 1) == 2) && (j == 2 || s.up j)
/-- .. is there an answer? -/
def PC.answered (s : PC) (i j : Nat) : Bool := s.arrives i j && s.link (i + j - 1) == 0

set_option maxHeartbeats 400000 in
theorem message_any (b : Nat) (s : PC) (i j : Int) (hi : i = 0 ∨ i = 1) (hj : j = 2 ∨ j = 1 - i) (w : World) (h : PAt w b s) :
    Calls Tryd.prog 50 #[.pointer (some ⟨b, 0, none⟩), .int .i64 i, .int .i64 j] w fun e' w' => e' = .returned (.tuple #[.bool (s.arrives i.toNat j.toNat), .bool (s.answered i.toNat j.toNat)]) ∧ ∃ n, w' = w.drewN n := by
  have hC := h.cell
  unfold PC.answered PC.arrives
  rcases hi with rfl | rfl <;> rcases hj with rfl | rfl
  · by_cases h2 : s.link 1 = 2
    · have e2 : (s.link 1 == 2) = true := by simp [h2]
      go_enter Tryd.func50, Tryd.ntmps50
      go_wp2
      go_quiet ((go_at_call 47; exact Calls.quiet_of_same (linkBetween_any _ _ (by omega) (by omega) (by omega) (by omega) _)))
      go_wp2
      go_ret2
      exact ⟨by simp [e2], _, rfl⟩
    · have e2 : (s.link 1 == 2) = false := by simp [h2]
      go_enter Tryd.func50, Tryd.ntmps50
      go_wp2
      go_quiet ((go_at_call 47; exact Calls.quiet_of_same (linkBetween_any _ _ (by omega) (by omega) (by omega) (by omega) _)))
      go_wp2
      go_ret2
      exact ⟨by simp [e2], _, rfl⟩
  · by_cases h2 : s.link 0 = 2
    · have e2 : (s.link 0 == 2) = true := by simp [h2]
      go_enter Tryd.func50, Tryd.ntmps50
      go_wp2
      go_quiet ((go_at_call 47; exact Calls.quiet_of_same (linkBetween_any _ _ (by omega) (by omega) (by omega) (by omega) _)))
      go_wp2
      go_ret2
      exact ⟨by simp [e2], _, rfl⟩
    · have e2 : (s.link 0 == 2) = false := by simp [h2]
      cases hu : s.up 1
      all_goals
        go_enter Tryd.func50, Tryd.ntmps50
        go_wp2
        go_quiet ((go_at_call 47; exact Calls.quiet_of_same (linkBetween_any _ _ (by omega) (by omega) (by omega) (by omega) _)))
        go_wp2
        go_ret2
        exact ⟨by simp [e2, hu], _, rfl⟩
  · by_cases h2 : s.link 2 = 2
    · have e2 : (s.link 2 == 2) = true := by simp [h2]
      go_enter Tryd.func50, Tryd.ntmps50
      go_wp2
      go_quiet ((go_at_call 47; exact Calls.quiet_of_same (linkBetween_any _ _ (by omega) (by omega) (by omega) (by omega) _)))
      go_wp2
      go_ret2
      exact ⟨by simp [e2], _, rfl⟩
    · have e2 : (s.link 2 == 2) = false := by simp [h2]
      go_enter Tryd.func50, Tryd.ntmps50
      go_wp2
      go_quiet ((go_at_call 47; exact Calls.quiet_of_same (linkBetween_any _ _ (by omega) (by omega) (by omega) (by omega) _)))
      go_wp2
      go_ret2
      exact ⟨by simp [e2], _, rfl⟩
  · by_cases h2 : s.link 0 = 2
    · have e2 : (s.link 0 == 2) = true := by simp [h2]
      go_enter Tryd.func50, Tryd.ntmps50
      go_wp2
      go_quiet ((go_at_call 47; exact Calls.quiet_of_same (linkBetween_any _ _ (by omega) (by omega) (by omega) (by omega) _)))
      go_wp2
      go_ret2
      exact ⟨by simp [e2], _, rfl⟩
    · have e2 : (s.link 0 == 2) = false := by simp [h2]
      cases hu : s.up 0
      all_goals
        go_enter Tryd.func50, Tryd.ntmps50
        go_wp2
        go_quiet ((go_at_call 47; exact Calls.quiet_of_same (linkBetween_any _ _ (by omega) (by omega) (by omega) (by omega) _)))
        go_wp2
        go_ret2
        exact ⟨by simp [e2, hu], _, rfl⟩

/-- Does the witness grant node i a lease? -/
def PC.mayLead (s : PC) (i : Int) : Bool := s.holder == i || s.holder == -1 || (decide (s.wtil ≤ s.now) && !s.solo)

set_option maxHeartbeats 400000 in
theorem mayLead_any (b : Nat) (s : PC) (i : Int) (w : World) (h : PAt w b s) :
    Calls Tryd.prog 51 #[.pointer (some ⟨b, 0, none⟩), .int .i64 i] w fun e' w' => e' = .returned (.bool (s.mayLead i)) ∧ ∃ n, w' = w.drewN n := by
  have hC := h.cell
  unfold PC.mayLead
  cases e1 : (s.holder == i)
  · cases e2 : (s.holder == -1)
    · by_cases e3 : s.wtil ≤ s.now
      · go_enter Tryd.func51, Tryd.ntmps51
        go_wp2
        go_quiet (fail)
        go_wp2
        go_ret
        exact ⟨by simp [e3], _, rfl⟩
      · have e4 : decide (s.wtil ≤ s.now) = false := by simpa using e3
        go_enter Tryd.func51, Tryd.ntmps51
        go_wp2
        go_quiet (fail)
        go_wp2
        go_ret
        exact ⟨by simp [e4], _, rfl⟩
    · go_enter Tryd.func51, Tryd.ntmps51
      go_wp2
      go_ret
      exact ⟨rfl, 0, rfl⟩
  · go_enter Tryd.func51, Tryd.ntmps51
    go_wp2
    go_ret
    exact ⟨rfl, 0, rfl⟩

/-- The witness's side of a lease. -/
def PC.granted (s : PC) (i : Int) : PC :=
  if s.holder = i then { s with wtil := s.now + s.lease } else { s with wepoch := wrap64 (s.wepoch + 1), holder := i, solo := false, wtil := s.now + s.lease }

set_option maxHeartbeats 400000 in
theorem grant_any (b : Nat) (s : PC) (i : Int) (ok : s.Ok) (w : World) (h : PAt w b s) :
    Calls Tryd.prog 52 #[.pointer (some ⟨b, 0, none⟩), .int .i64 i] w fun e' w' => e' = .returned (.tuple #[]) ∧ PAt w' b (s.granted i) ∧ Wrote b w w' := by
  have hC := h.cell
  have hF := h.free
  have n0 := ok.now0
  have n1 := ok.now1
  have l0 := ok.lease0
  have l1 := ok.lease1
  unfold PC.granted
  by_cases e : s.holder = i
  · rw [if_pos e]
    have e1 : (s.holder != i) = false := by simp [e]
    clear e
    go_enter Tryd.func52, Tryd.ntmps52
    go_wp2
    go_region
    go_end0
    exact ⟨rfl, PAt.of (h.bat.set _ _).drew rfl, (Wrote.set (Kept.refl _ _) _ _).drew⟩
  · rw [if_neg e]
    have e1 : (s.holder != i) = true := by simp [e]
    clear e
    go_enter Tryd.func52, Tryd.ntmps52
    go_wp2
    go_region
    go_end0
    exact ⟨rfl, PAt.of ((((h.bat.set _ _).set _ _).set _ _).set _ _).drew rfl, (Wrote.set (Wrote.set (Wrote.set (Wrote.set (Kept.refl _ _) _ _) _ _) _ _) _ _).drew⟩

/-- The node's side of a lease. -/
def PC.took (s : PC) (i : Nat) : PC :=
  { s with win := if s.epoch i = s.wepoch then s.win else upd s.win i (fun _ => 0), epoch := upd s.epoch i s.wepoch, til := upd s.til i s.wtil, alone := upd s.alone i s.solo }

theorem took_same0 (s : PC) (e : s.epoch 0 = s.wepoch) : (((pcArr s).setIfInBounds 16 (.int .i64 s.wepoch)).setIfInBounds 17 (.int .i64 s.wtil)).setIfInBounds 18 (.bool s.solo) = pcArr (s.took 0) := by
  simp only [pcArr, PC.took, if_pos e, List.setIfInBounds_toArray, List.set_cons_succ, List.set_cons_zero]
  rfl
theorem took_other0 (s : PC) (e : s.epoch 0 ≠ s.wepoch) : (((((((pcArr s).setIfInBounds 23 (.int .i64 0)).setIfInBounds 24 (.int .i64 0)).setIfInBounds 25 (.int .i64 0)).setIfInBounds 26 (.int .i64 0)).setIfInBounds 16 (.int .i64 s.wepoch)).setIfInBounds 17 (.int .i64 s.wtil)).setIfInBounds 18 (.bool s.solo) = pcArr (s.took 0) := by
  simp only [pcArr, PC.took, if_neg e, List.setIfInBounds_toArray, List.set_cons_succ, List.set_cons_zero]
  rfl
theorem took_same1 (s : PC) (e : s.epoch 1 = s.wepoch) : (((pcArr s).setIfInBounds 28 (.int .i64 s.wepoch)).setIfInBounds 29 (.int .i64 s.wtil)).setIfInBounds 30 (.bool s.solo) = pcArr (s.took 1) := by
  simp only [pcArr, PC.took, if_pos e, List.setIfInBounds_toArray, List.set_cons_succ, List.set_cons_zero]
  rfl
theorem took_other1 (s : PC) (e : s.epoch 1 ≠ s.wepoch) : (((((((pcArr s).setIfInBounds 35 (.int .i64 0)).setIfInBounds 36 (.int .i64 0)).setIfInBounds 37 (.int .i64 0)).setIfInBounds 38 (.int .i64 0)).setIfInBounds 28 (.int .i64 s.wepoch)).setIfInBounds 29 (.int .i64 s.wtil)).setIfInBounds 30 (.bool s.solo) = pcArr (s.took 1) := by
  simp only [pcArr, PC.took, if_neg e, List.setIfInBounds_toArray, List.set_cons_succ, List.set_cons_zero]
  rfl

set_option maxHeartbeats 1000000 in
theorem takeLease_any (b : Nat) (s : PC) (i : Int) (h0 : 0 ≤ i) (h2 : i < 2) (w : World) (h : PAt w b s) :
    Calls Tryd.prog 53 #[.pointer (some ⟨b, 0, none⟩), .int .i64 i] w fun e' w' => e' = .returned (.tuple #[]) ∧ PAt w' b (s.took i.toNat) ∧ Wrote b w w' := by
  have hC := h.cell
  have hF := h.free
  rcases lt2 h0 h2 with rfl | rfl
  · have eT : s.took (Int.toNat 0) = s.took 0 := rfl
    rw [eT]
    clear eT
    by_cases e : s.epoch 0 = s.wepoch
    · have E := took_same0 s e
      have e1 : (s.epoch 0 != s.wepoch) = false := by simp [e]
      have HE : Hid ((((pcArr s).setIfInBounds 16 (.int .i64 s.wepoch)).setIfInBounds 17 (.int .i64 s.wtil)).setIfInBounds 18 (.bool s.solo) = pcArr (s.took 0)) := E
      clear E e
      go_enter Tryd.func53, Tryd.ntmps53
      go_wp2
      go_quiet (fail)
      go_wp2
      go_region
      go_wp2
      go_region
      go_wp2
      go_region
      go_end0
      refine ⟨rfl, PAt.of ?_ HE.out, ?_⟩
      · repeat (with_reducible first | refine BAt.drew ?_ | refine BAt.drewN ?_ _ | refine BAt.set ?_ _ _ | exact h.bat)
      · repeat (with_reducible first | refine Kept.drew ?_ | refine Kept.drewN ?_ _ | refine Wrote.set ?_ _ _ | exact Kept.refl _ _)
    · have E := took_other0 s e
      have e1 : (s.epoch 0 != s.wepoch) = true := by simp [e]
      have HE : Hid ((((((((pcArr s).setIfInBounds 23 (.int .i64 0)).setIfInBounds 24 (.int .i64 0)).setIfInBounds 25 (.int .i64 0)).setIfInBounds 26 (.int .i64 0)).setIfInBounds 16 (.int .i64 s.wepoch)).setIfInBounds 17 (.int .i64 s.wtil)).setIfInBounds 18 (.bool s.solo) = pcArr (s.took 0)) := E
      clear E e
      go_enter Tryd.func53, Tryd.ntmps53
      go_wp2
      go_quiet (fail)
      go_wp2
      go_region
      go_wp2
      go_region
      go_wp2
      go_region
      go_end0
      refine ⟨rfl, PAt.of ?_ HE.out, ?_⟩
      · repeat (with_reducible first | refine BAt.drew ?_ | refine BAt.drewN ?_ _ | refine BAt.set ?_ _ _ | exact h.bat)
      · repeat (with_reducible first | refine Kept.drew ?_ | refine Kept.drewN ?_ _ | refine Wrote.set ?_ _ _ | exact Kept.refl _ _)
  · have eT : s.took (Int.toNat 1) = s.took 1 := rfl
    rw [eT]
    clear eT
    by_cases e : s.epoch 1 = s.wepoch
    · have E := took_same1 s e
      have e1 : (s.epoch 1 != s.wepoch) = false := by simp [e]
      have HE : Hid ((((pcArr s).setIfInBounds 28 (.int .i64 s.wepoch)).setIfInBounds 29 (.int .i64 s.wtil)).setIfInBounds 30 (.bool s.solo) = pcArr (s.took 1)) := E
      clear E e
      go_enter Tryd.func53, Tryd.ntmps53
      go_wp2
      go_quiet (fail)
      go_wp2
      go_region
      go_wp2
      go_region
      go_wp2
      go_region
      go_end0
      refine ⟨rfl, PAt.of ?_ HE.out, ?_⟩
      · repeat (with_reducible first | refine BAt.drew ?_ | refine BAt.drewN ?_ _ | refine BAt.set ?_ _ _ | exact h.bat)
      · repeat (with_reducible first | refine Kept.drew ?_ | refine Kept.drewN ?_ _ | refine Wrote.set ?_ _ _ | exact Kept.refl _ _)
    · have E := took_other1 s e
      have e1 : (s.epoch 1 != s.wepoch) = true := by simp [e]
      have HE : Hid ((((((((pcArr s).setIfInBounds 35 (.int .i64 0)).setIfInBounds 36 (.int .i64 0)).setIfInBounds 37 (.int .i64 0)).setIfInBounds 38 (.int .i64 0)).setIfInBounds 28 (.int .i64 s.wepoch)).setIfInBounds 29 (.int .i64 s.wtil)).setIfInBounds 30 (.bool s.solo) = pcArr (s.took 1)) := E
      clear E e
      go_enter Tryd.func53, Tryd.ntmps53
      go_wp2
      go_quiet (fail)
      go_wp2
      go_region
      go_wp2
      go_region
      go_wp2
      go_region
      go_end0
      refine ⟨rfl, PAt.of ?_ HE.out, ?_⟩
      · repeat (with_reducible first | refine BAt.drew ?_ | refine BAt.drewN ?_ _ | refine BAt.set ?_ _ _ | exact h.bat)
      · repeat (with_reducible first | refine Kept.drew ?_ | refine Kept.drewN ?_ _ | refine Wrote.set ?_ _ _ | exact Kept.refl _ _)

end Go.Proofs.YtpfahgogjeignabDoor
