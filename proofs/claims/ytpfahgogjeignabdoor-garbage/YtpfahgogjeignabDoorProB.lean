/-
  The program's calls that turn a cluster: Start, Crash, Link.
-/
import Derived.Test.YtpfahgogjeignabDoorProA
import Derived.Deep.RegionHeld3
import Derived.Deep.DrawnRows
set_option linter.unusedVariables false
set_option linter.unusedSimpArgs false
namespace Go.Proofs.YtpfahgogjeignabDoor
open Go.RowKit
attribute [local go_sem] pcg0 pcg1 pcg2 pcg3 pcg4 pcg5 pcg6 pcg7 pcg8 pcg9 pcg10 pcg11 pcg12 pcg13 pcg14 pcg15 pcg16 pcg17 pcg18 pcg19 pcg20 pcg21 pcg22 pcg23 pcg24 pcg25 pcg26 pcg27 pcg28 pcg29 pcg30 pcg31 pcg32 pcg33 pcg34 pcg35 pcg36 pcg37 pcg38 pcg39 pcg40 pcg41 pcg42
attribute [local go_sem] pcgRate pcgBurst pcgLink pcgUp pcgEpoch pcgTil pcgAlone pcgLev pcgWin

def PC.started (s : PC) (i : Nat) : PC := { s with up := upd s.up i true }
def PC.crashed (s : PC) (i : Nat) : PC := { s with up := upd s.up i false, epoch := upd s.epoch i 0, til := upd s.til i 0, alone := upd s.alone i false, win := upd s.win i (fun _ => 0) }

set_option maxHeartbeats 400000 in
theorem start_noNode (b : Nat) (i : Int) (hi : isNodeB i = false) (w : World) :
    Calls Tryd.prog 25 #[.pointer (some ⟨b, 0, none⟩), .int .i64 i] w fun e' w' => e' = .returned (.int .i64 4) ∧ Same w w' := by
  go_enter Tryd.func25, Tryd.ntmps25
  go_wp2_with (go_at_call 49; refine (isNode_any _ _).mono ?_; rintro e w' ⟨rfl, rfl⟩)
  go_ret
  exact ⟨rfl, Kept.refl _ _⟩

set_option maxHeartbeats 400000 in
theorem start_up (b : Nat) (s : PC) (i : Int) (h0 : 0 ≤ i) (h2 : i < 2) (hu : s.up i.toNat = true) (w : World) (h : PAt w b s) :
    Calls Tryd.prog 25 #[.pointer (some ⟨b, 0, none⟩), .int .i64 i] w fun e' w' => e' = .returned (.int .i64 6) ∧ Same w w' := by
  have hC := h.cell
  have hn : isNodeB i = true := by rcases lt2 h0 h2 with rfl | rfl <;> rfl
  go_enter Tryd.func25, Tryd.ntmps25
  go_wp2_with (go_at_call 49; refine (isNode_any _ _).mono ?_; rintro e w' ⟨rfl, rfl⟩)
  go_ret
  exact ⟨rfl, Kept.refl _ _⟩

set_option maxHeartbeats 400000 in
theorem start_yes (b : Nat) (s : PC) (i : Int) (h0 : 0 ≤ i) (h2 : i < 2) (hu : s.up i.toNat = false) (w : World) (h : PAt w b s) :
    Calls Tryd.prog 25 #[.pointer (some ⟨b, 0, none⟩), .int .i64 i] w fun e' w' => e' = .returned (.int .i64 0) ∧ PAt w' b (s.started i.toNat) ∧ Wrote b w w' := by
  have hC := h.cell
  have hF := h.free
  rcases lt2 h0 h2 with rfl | rfl
  all_goals
    simp only [Int.toNat_zero, Int.toNat_one] at hu
    go_enter Tryd.func25, Tryd.ntmps25
    go_wp2_with (go_at_call 49; refine (isNode_any _ _).mono ?_; rintro e w' ⟨rfl, rfl⟩)
    go_ret
    exact ⟨rfl, PAt.of (h.bat.set _ _) rfl, Wrote.set (Kept.refl _ _) _ _⟩

set_option maxHeartbeats 400000 in
theorem crash_noNode (b : Nat) (i : Int) (hi : isNodeB i = false) (w : World) :
    Calls Tryd.prog 24 #[.pointer (some ⟨b, 0, none⟩), .int .i64 i] w fun e' w' => e' = .returned (.int .i64 4) ∧ Same w w' := by
  go_enter Tryd.func24, Tryd.ntmps24
  go_wp2_with (go_at_call 48; refine (upError_no b i hi _).mono ?_; rintro e w' ⟨rfl, rfl⟩)
  go_ret
  exact ⟨rfl, Kept.refl _ _⟩

set_option maxHeartbeats 400000 in
theorem crash_down (b : Nat) (s : PC) (i : Int) (h0 : 0 ≤ i) (h2 : i < 2) (hu : s.up i.toNat = false) (w : World) (h : PAt w b s) :
    Calls Tryd.prog 24 #[.pointer (some ⟨b, 0, none⟩), .int .i64 i] w fun e' w' => e' = .returned (.int .i64 5) ∧ Same w w' := by
  have hC := h.cell
  have hn : isNodeB i = true := by rcases lt2 h0 h2 with rfl | rfl <;> rfl
  go_enter Tryd.func24, Tryd.ntmps24
  go_wp2_with (go_at_call 48; refine (upError_down b s i h0 h2 hu _ h).mono ?_; rintro e w' ⟨rfl, rfl⟩)
  go_ret
  exact ⟨rfl, Kept.refl _ _⟩

theorem crash_arr0 (s : PC) : ((((((((pcArr s).setIfInBounds 15 (.bool false)).setIfInBounds 16 (.int .i64 0)).setIfInBounds 17 (.int .i64 0)).setIfInBounds 18 (.bool false)).setIfInBounds 23 (.int .i64 0)).setIfInBounds 24 (.int .i64 0)).setIfInBounds 25 (.int .i64 0)).setIfInBounds 26 (.int .i64 0) = pcArr (s.crashed 0) := by
  simp only [pcArr, List.setIfInBounds_toArray, List.set_cons_succ, List.set_cons_zero]
  rfl
theorem crash_arr1 (s : PC) : ((((((((pcArr s).setIfInBounds 27 (.bool false)).setIfInBounds 28 (.int .i64 0)).setIfInBounds 29 (.int .i64 0)).setIfInBounds 30 (.bool false)).setIfInBounds 35 (.int .i64 0)).setIfInBounds 36 (.int .i64 0)).setIfInBounds 37 (.int .i64 0)).setIfInBounds 38 (.int .i64 0) = pcArr (s.crashed 1) := by
  simp only [pcArr, List.setIfInBounds_toArray, List.set_cons_succ, List.set_cons_zero]
  rfl

set_option maxHeartbeats 400000 in
theorem crash_yes (b : Nat) (s : PC) (i : Int) (h0 : 0 ≤ i) (h2 : i < 2) (hu : s.up i.toNat = true) (w : World) (h : PAt w b s) :
    Calls Tryd.prog 24 #[.pointer (some ⟨b, 0, none⟩), .int .i64 i] w fun e' w' => e' = .returned (.int .i64 0) ∧ PAt w' b (s.crashed i.toNat) ∧ Wrote b w w' := by
  have hC := h.cell
  have hF := h.free
  rcases lt2 h0 h2 with rfl | rfl
  · have hu' : s.up 0 = true := hu
    show Calls _ _ _ _ fun e' w' => e' = .returned (.int .i64 0) ∧ PAt w' b (s.crashed 0) ∧ Wrote b w w'
    clear hu
    go_enter Tryd.func24, Tryd.ntmps24
    go_wp2_with (go_at_call 48; refine (upError_up b s 0 h0 h2 hu' _ h).mono ?_; rintro e w' ⟨rfl, rfl⟩)
    go_ret
    have hb := (((((((h.bat.set 15 (.bool false)).set 16 (.int .i64 0)).set 17 (.int .i64 0)).set 18 (.bool false)).set 23 (.int .i64 0)).set 24 (.int .i64 0)).set 25 (.int .i64 0)).set 26 (.int .i64 0)
    rw [crash_arr0] at hb
    exact ⟨rfl, hb, Wrote.set (Wrote.set (Wrote.set (Wrote.set (Wrote.set (Wrote.set (Wrote.set (Wrote.set (Kept.refl _ _) _ _) _ _) _ _) _ _) _ _) _ _) _ _) _ _⟩
  · have hu' : s.up 1 = true := hu
    show Calls _ _ _ _ fun e' w' => e' = .returned (.int .i64 0) ∧ PAt w' b (s.crashed 1) ∧ Wrote b w w'
    clear hu
    go_enter Tryd.func24, Tryd.ntmps24
    go_wp2_with (go_at_call 48; refine (upError_up b s 1 h0 h2 hu' _ h).mono ?_; rintro e w' ⟨rfl, rfl⟩)
    go_ret
    have hb := (((((((h.bat.set 27 (.bool false)).set 28 (.int .i64 0)).set 29 (.int .i64 0)).set 30 (.bool false)).set 35 (.int .i64 0)).set 36 (.int .i64 0)).set 37 (.int .i64 0)).set 38 (.int .i64 0)
    rw [crash_arr1] at hb
    exact ⟨rfl, hb, Wrote.set (Wrote.set (Wrote.set (Wrote.set (Wrote.set (Wrote.set (Wrote.set (Wrote.set (Kept.refl _ _) _ _) _ _) _ _) _ _) _ _) _ _) _ _) _ _⟩

def linkOk (a c m : Int) : Bool := isEndB a && isEndB c && !(a == c) && isModeB m
def PC.linked (s : PC) (a c m : Int) : PC := { s with link := upd s.link (a + c - 1).toNat m }

set_option maxHeartbeats 400000 in
theorem link_no (b : Nat) (a c m : Int) (hi : linkOk a c m = false) (w : World) :
    Calls Tryd.prog 23 #[.pointer (some ⟨b, 0, none⟩), .int .i64 a, .int .i64 c, .int .i64 m] w fun e' w' => e' = .returned (.int .i64 7) ∧ Same w w' := by
  unfold linkOk at hi
  cases h1 : isEndB a <;> cases h2 : isEndB c <;> cases h3 : (a == c) <;> cases h4 : isModeB m <;> simp [h1, h2, h3, h4] at hi
  all_goals
    clear hi
    go_enter Tryd.func23, Tryd.ntmps23
    go_wp2_with (first | (go_at_call 45; refine (isEnd_any _ _).mono ?_; rintro e w' ⟨rfl, rfl⟩) | (go_at_call 46; refine (isMode_any _ _).mono ?_; rintro e w' ⟨rfl, rfl⟩))
    go_ret
    exact ⟨rfl, Kept.refl _ _⟩

theorem isEnd_cases {a : Int} (h : isEndB a = true) : a = 0 ∨ a = 1 ∨ a = 2 := by
  simp [isEndB, isNodeB] at h; omega
theorem isMode_cases {a : Int} (h : isModeB a = true) : a = 0 ∨ a = 1 ∨ a = 2 := by
  simp [isModeB] at h; omega

set_option maxHeartbeats 400000 in
theorem link_yes (b : Nat) (s : PC) (a c m : Int) (hi : linkOk a c m = true) (w : World) (h : PAt w b s) :
    Calls Tryd.prog 23 #[.pointer (some ⟨b, 0, none⟩), .int .i64 a, .int .i64 c, .int .i64 m] w fun e' w' => e' = .returned (.int .i64 0) ∧ PAt w' b (s.linked a c m) ∧ Wrote b w w' := by
  unfold linkOk at hi
  simp only [Bool.and_eq_true, Bool.not_eq_true'] at hi
  obtain ⟨⟨⟨h1, h2⟩, h3⟩, h4⟩ := hi
  have hC := h.cell
  have hF := h.free
  rcases isEnd_cases h1 with rfl | rfl | rfl <;> rcases isEnd_cases h2 with rfl | rfl | rfl <;> simp at h3
  all_goals
    go_enter Tryd.func23, Tryd.ntmps23
    go_wp2_with (first | (go_at_call 45; refine (isEnd_any _ _).mono ?_; rintro e w' ⟨rfl, rfl⟩) | (go_at_call 46; refine (isMode_any _ _).mono ?_; rintro e w' ⟨rfl, rfl⟩))
    go_region_with (go_at_call 47; refine (linkBetween_any _ _ (by omega) (by omega) (by omega) (by omega) _).mono ?_; rintro e w' ⟨rfl, rfl⟩)
    go_wp2
    go_ret
    exact ⟨rfl, PAt.of (h.bat.set _ _).drew rfl, (Wrote.set (Kept.refl _ _) _ _).drew⟩

end Go.Proofs.YtpfahgogjeignabDoor
