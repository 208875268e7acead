/-
  The document's Level, messages, grants; Pass, Link, Start, Crash.
-/
import Derived.Test.YtilffakkmjdmnaaRefA
set_option linter.unusedVariables false
set_option linter.unusedSimpArgs false
namespace Go.Proofs.Ytilffakkmjdmnaa
open Go.RowKit
attribute [local go_sem] rg0 rg1 rg2 rg3 rg4 rg5 rg6 rg7 rg8 rg9 rg10 sg0 sg1 sg2 sg3 sg4 sg5 mg0 mg1 mg2 mgk fArr_get

set_option maxHeartbeats 400000 in
theorem rlevel_noNode (A : RA) (i k : Int) (hi : isNodeB i = false) (w : World) :
    Calls Try.prog 82 #[.pointer (some ⟨A.c, 0, none⟩), .int .i64 i, .int .i64 k] w fun e' w' => e' = .returned (.tuple #[.int .i64 0, .int .i64 0, .int .i64 4]) ∧ ∃ q, w' = w.drewN q := by
  go_enter Try.func82, Try.ntmps82
  go_wp2_with (go_at_call 93; refine (rnode_any _ _).mono ?_; rintro e w' ⟨rfl, rfl⟩)
  go_ret3
  exact ⟨rfl, 0, rfl⟩

set_option maxHeartbeats 400000 in
theorem rlevel_noTenant (A : RA) (s : RS) (i k : Int) (hn : isNodeB i = true) (hk : k < 0 ∨ (s.n : Int) ≤ k) (w : World) (h : RAt w A s) :
    Calls Try.prog 82 #[.pointer (some ⟨A.c, 0, none⟩), .int .i64 i, .int .i64 k] w fun e' w' => e' = .returned (.tuple #[.int .i64 0, .int .i64 0, .int .i64 2]) ∧ ∃ q, w' = w.drewN q := by
  have hC := h.c.cell
  by_cases h1 : k < 0
  · clear hk
    go_enter Try.func82, Try.ntmps82
    go_wp2_with (go_at_call 93; refine (rnode_any _ _).mono ?_; rintro e w' ⟨rfl, rfl⟩)
    go_ret3
    exact ⟨rfl, 0, rfl⟩
  · have h2 : (s.n : Int) ≤ k := by omega
    clear hk
    go_enter Try.func82, Try.ntmps82
    go_wp2_with (go_at_call 93; refine (rnode_any _ _).mono ?_; rintro e w' ⟨rfl, rfl⟩)
    go_ret3
    exact ⟨rfl, 0, rfl⟩

set_option maxHeartbeats 400000 in
theorem rlevel_yes (A : RA) (s : RS) (i k : Int) (h0 : 0 ≤ i) (h2 : i < 2) (hk0 : 0 ≤ k) (hk : k < s.n) (w : World) (h : RAt w A s) (ok : s.Ok) :
    Calls Try.prog 82 #[.pointer (some ⟨A.c, 0, none⟩), .int .i64 i, .int .i64 k] w fun e' w' => e' = .returned (.tuple #[.int .i64 (s.level i.toNat k.toNat), .int .i64 (s.win i.toNat k.toNat), .int .i64 0]) ∧ ∃ q, w' = w.drewN q := by
  have hC := h.c.cell
  have hkn : k.toNat < s.n := by omega
  have i2 : i.toNat < 2 := by omega
  have hS := (h.side i.toNat i2).cell
  have hp := h.sp i.toNat i2
  have hW := (h.win i.toNat i2).cell k.toNat
  rw [fArr_get _ _ _ hkn] at hW
  have hn : isNodeB i = true := by rcases lt2 h0 h2 with rfl | rfl <;> rfl
  go_enter Try.func82, Try.ntmps82
  go_wp2_with (first | (go_at_call 93; refine (rnode_any _ _).mono ?_; rintro e w' ⟨rfl, rfl⟩) | (go_at_call 98; refine (rlevel_any A s i k h0 h2 hk0 hk _ h ok).mono ?_; rintro e w' ⟨rfl, rfl⟩))
  go_quiet (fail)
  go_wp2
  go_ret3
  exact ⟨rfl, _, rfl⟩

def RS.arrives (s : RS) (i j : Nat) : Bool := !(s.mode (i + j - 1) == 2) && (j == 2 || s.up j)
def RS.answered (s : RS) (i j : Nat) : Bool := s.arrives i j && s.mode (i + j - 1) == 0

set_option maxHeartbeats 400000 in
theorem rsent_any (A : RA) (s : RS) (i j : Int) (hi : i = 0 ∨ i = 1) (hj : j = 2 ∨ j = 1 - i) (w : World) (h : RAt w A s) :
    Calls Try.prog 94 #[.pointer (some ⟨A.c, 0, none⟩), .int .i64 i, .int .i64 j] w fun e' w' => e' = .returned (.tuple #[.bool (s.arrives i.toNat j.toNat), .bool (s.answered i.toNat j.toNat)]) ∧ w' = w := by
  have hC := h.c.cell
  have hM := h.modes.cell
  have p0 := h.sp 0 (by omega)
  have p1 := h.sp 1 (by omega)
  have s0 := (h.side 0 (by omega)).cell
  have s1 := (h.side 1 (by omega)).cell
  unfold RS.answered RS.arrives
  rcases hi with rfl | rfl <;> rcases hj with rfl | rfl
  · by_cases e : s.mode 1 = 2
    · have e2 : (s.mode 1 == 2) = true := by simp [e]
      go_enter Try.func94, Try.ntmps94
      go_wp2
      go_ret2
      exact ⟨by simp [e2], rfl⟩
    · have e2 : (s.mode 1 == 2) = false := by simp [e]
      go_enter Try.func94, Try.ntmps94
      go_wp2
      go_ret2
      exact ⟨by simp [e2], rfl⟩
  · by_cases e : s.mode 0 = 2
    · have e2 : (s.mode 0 == 2) = true := by simp [e]
      go_enter Try.func94, Try.ntmps94
      go_wp2
      go_ret2
      exact ⟨by simp [e2], rfl⟩
    · have e2 : (s.mode 0 == 2) = false := by simp [e]
      cases hu : s.up 1
      all_goals
        go_enter Try.func94, Try.ntmps94
        go_wp2
        go_ret2
        exact ⟨by simp [e2, hu], rfl⟩
  · by_cases e : s.mode 2 = 2
    · have e2 : (s.mode 2 == 2) = true := by simp [e]
      go_enter Try.func94, Try.ntmps94
      go_wp2
      go_ret2
      exact ⟨by simp [e2], rfl⟩
    · have e2 : (s.mode 2 == 2) = false := by simp [e]
      go_enter Try.func94, Try.ntmps94
      go_wp2
      go_ret2
      exact ⟨by simp [e2], rfl⟩
  · by_cases e : s.mode 0 = 2
    · have e2 : (s.mode 0 == 2) = true := by simp [e]
      go_enter Try.func94, Try.ntmps94
      go_wp2
      go_ret2
      exact ⟨by simp [e2], rfl⟩
    · have e2 : (s.mode 0 == 2) = false := by simp [e]
      cases hu : s.up 0
      all_goals
        go_enter Try.func94, Try.ntmps94
        go_wp2
        go_ret2
        exact ⟨by simp [e2, hu], rfl⟩

def RS.grants (s : RS) (i : Int) : Bool := s.holder == i || s.holder == -1 || (decide (s.til ≤ s.now) && !s.solo)

set_option maxHeartbeats 400000 in
theorem rgrants_any (A : RA) (s : RS) (i : Int) (w : World) (h : RAt w A s) :
    Calls Try.prog 95 #[.pointer (some ⟨A.c, 0, none⟩), .int .i64 i] w fun e' w' => e' = .returned (.bool (s.grants i)) ∧ ∃ n, w' = w.drewN n := by
  have hC := h.c.cell
  unfold RS.grants
  cases e1 : (s.holder == i)
  · cases e2 : (s.holder == -1)
    · by_cases e3 : s.til ≤ s.now
      · have e4 : decide (s.til ≤ s.now) = true := by simpa using e3
        go_enter Try.func95, Try.ntmps95
        go_wp2
        go_quiet (fail)
        go_wp2
        go_ret
        exact ⟨by simp [e3], _, rfl⟩
      · have e4 : decide (s.til ≤ s.now) = false := by simpa using e3
        go_enter Try.func95, Try.ntmps95
        go_wp2
        go_quiet (fail)
        go_wp2
        go_ret
        exact ⟨by simp [e4], _, rfl⟩
    · go_enter Try.func95, Try.ntmps95
      go_wp2
      go_quiet (fail)
      go_wp2
      go_ret
      exact ⟨rfl, _, rfl⟩
  · go_enter Try.func95, Try.ntmps95
    go_wp2
    go_quiet (fail)
    go_wp2
    go_ret
    exact ⟨rfl, _, rfl⟩

end Go.Proofs.Ytilffakkmjdmnaa
