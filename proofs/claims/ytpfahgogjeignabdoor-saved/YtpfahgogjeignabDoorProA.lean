/-
  The program's small functions, each by a contract.
-/
import Derived.Test.YtpfahgogjeignabDoorMem
import Derived.Deep.QuietTactic
import Derived.BigQuiet
import Derived.Deep.RegionHeld3
import Derived.Deep.DrawnRows
set_option linter.unusedVariables false
set_option linter.unusedSimpArgs false
namespace Go.Proofs.YtpfahgogjeignabDoor
open Go.RowKit
attribute [local go_sem] pcg0 pcg1 pcg2 pcg3 pcg4 pcg5 pcg6 pcg7 pcg8 pcg9 pcg10 pcg11 pcg12 pcg13 pcg14 pcg15 pcg16 pcg17 pcg18 pcg19 pcg20 pcg21 pcg22 pcg23 pcg24 pcg25 pcg26 pcg27 pcg28 pcg29 pcg30 pcg31 pcg32 pcg33 pcg34 pcg35 pcg36 pcg37 pcg38 pcg39 pcg40 pcg41 pcg42
attribute [local go_sem] pcgRate pcgBurst pcgLink pcgUp pcgEpoch pcgTil pcgAlone pcgLev pcgWin

def isNodeB (n : Int) : Bool := n == 0 || n == 1

set_option maxHeartbeats 400000 in
theorem isNode_any (n : Int) (w : World) :
    Calls Tryd.prog 49 #[.int .i64 n] w fun e w' => e = .returned (.bool (isNodeB n)) ∧ w' = w := by
  by_cases h0 : n = 0
  · subst h0
    go_enter Tryd.func49, Tryd.ntmps49
    go_wp2
    go_ret
    exact ⟨rfl, rfl⟩
  · have h : (n == 0) = false := by simp [h0]
    go_enter Tryd.func49, Tryd.ntmps49
    go_wp2
    go_ret
    exact ⟨by simp [isNodeB, h], rfl⟩

def hasTenantB (s : PC) (k : Int) : Bool := decide (0 ≤ k) && decide (k < s.count)

set_option maxHeartbeats 400000 in
theorem hasTenant_any (b : Nat) (s : PC) (k : Int) (w : World) (h : PAt w b s) :
    Calls Tryd.prog 62 #[.pointer (some ⟨b, 0, none⟩), .int .i64 k] w fun e w' => e = .returned (.bool (hasTenantB s k)) ∧ w' = w := by
  have hC := h.cell
  by_cases h0 : 0 ≤ k
  · go_enter Tryd.func62, Tryd.ntmps62
    go_wp2
    go_ret
    exact ⟨by simp [hasTenantB, h0], rfl⟩
  · go_enter Tryd.func62, Tryd.ntmps62
    go_wp2
    go_ret
    exact ⟨by simp [hasTenantB]; omega, rfl⟩

set_option maxHeartbeats 400000 in
theorem room_any (b : Nat) (s : PC) (k : Int) (hk0 : 0 ≤ k) (hk : k < 4) (w : World) (h : PAt w b s) (ok : s.Ok) :
    Calls Tryd.prog 43 #[.pointer (some ⟨b, 0, none⟩), .int .i64 k] w fun e w' => e = .returned (.int .i64 (s.burst k.toNat - s.window)) ∧ ∃ n, w' = w.drewN n := by
  have hC := h.cell
  have h1 := ok.burst0 k.toNat
  have h2 := ok.burst1 k.toNat
  have h3 := ok.win0
  have h4 := ok.win1
  go_enter Tryd.func43, Tryd.ntmps43
  go_wp2
  go_quiet (fail)
  go_wp2
  go_ret
  exact ⟨rfl, _, rfl⟩

def PC.grown (s : PC) (k : Nat) (l t : Int) : Int := if s.burst k - s.window < l + s.rate k * t then s.burst k - s.window else l + s.rate k * t

theorem mul_bd {r t : Int} (h0 : 0 ≤ r) (h1 : r ≤ 1000) (t0 : 0 ≤ t) (t1 : t ≤ 1000000000000) : 0 ≤ r * t ∧ r * t ≤ 1000000000000000 := by
  constructor
  · exact Int.mul_nonneg h0 t0
  · calc r * t ≤ 1000 * t := Int.mul_le_mul_of_nonneg_right h1 t0
      _ ≤ 1000 * 1000000000000 := Int.mul_le_mul_of_nonneg_left t1 (by omega)
      _ = _ := by omega

set_option maxHeartbeats 400000 in
theorem grown_any (b : Nat) (s : PC) (k l t : Int) (hk0 : 0 ≤ k) (hk : k < 4) (l0 : 0 ≤ l) (l1 : l ≤ 1000000) (t0 : 0 ≤ t) (t1 : t ≤ 1000000000000) (w : World) (h : PAt w b s) (ok : s.Ok) :
    Calls Tryd.prog 44 #[.pointer (some ⟨b, 0, none⟩), .int .i64 k, .int .i64 l, .int .i64 t] w fun e w' => e = .returned (.int .i64 (s.grown k.toNat l t)) ∧ ∃ n, w' = w.drewN n := by
  have hC := h.cell
  obtain ⟨m0, m1⟩ := mul_bd (ok.rate0 k.toNat) (ok.rate1 k.toNat) t0 t1
  by_cases hr : s.burst k.toNat - s.window < l + s.rate k.toNat * t
  · have e : s.grown k.toNat l t = s.burst k.toNat - s.window := if_pos hr
    rw [e]
    clear e
    go_enter Tryd.func44, Tryd.ntmps44
    go_wp2_with (go_at_call 43; refine (room_any b s k hk0 hk _ h ok).mono ?_; rintro e w' ⟨rfl, n, rfl⟩)
    go_ret
    exact ⟨rfl, _, rfl⟩
  · have e : s.grown k.toNat l t = l + s.rate k.toNat * t := if_neg hr
    rw [e]
    clear e
    go_enter Tryd.func44, Tryd.ntmps44
    go_wp2_with (go_at_call 43; refine (room_any b s k hk0 hk _ h ok).mono ?_; rintro e w' ⟨rfl, n, rfl⟩)
    go_ret
    exact ⟨rfl, _, rfl⟩

set_option maxHeartbeats 400000 in
theorem time_any (b : Nat) (s : PC) (w : World) (h : PAt w b s) :
    Calls Tryd.prog 30 #[.pointer (some ⟨b, 0, none⟩)] w fun e w' => e = .returned (.int .i64 s.now) ∧ w' = w := by
  have hC := h.cell
  go_enter Tryd.func30, Tryd.ntmps30
  go_wp2
  go_ret
  exact ⟨rfl, rfl⟩

set_option maxHeartbeats 400000 in
theorem witness_any (b : Nat) (s : PC) (w : World) (h : PAt w b s) :
    Calls Tryd.prog 31 #[.pointer (some ⟨b, 0, none⟩)] w fun e' w' => e' = .returned (.agg #[.int .i64 s.holder, .int .i64 s.wepoch, .int .i64 s.wtil, .bool s.solo]) ∧ Same w w' := by
  have hC := h.cell
  have hl := h.lt
  go_enter Tryd.func31, Tryd.ntmps31
  go_wp2
  exact bodyPost_ret (v := .agg #[.int .i64 s.holder, .int .i64 s.wepoch, .int .i64 s.wtil, .bool s.solo]) (by simp [results, Tryd.results31, go_sem]) rfl ⟨rfl, (Kept.refl _ _).alloc _⟩

set_option maxHeartbeats 400000 in
theorem node_no (b : Nat) (s : PC) (i : Int) (hi : isNodeB i = false) (w : World) :
    Calls Tryd.prog 33 #[.pointer (some ⟨b, 0, none⟩), .int .i64 i] w fun e' w' => e' = .returned (.tuple #[.agg #[.bool false, .int .i64 0, .int .i64 0, .bool false], .int .i64 4]) ∧ Same w w' := by
  go_enter Tryd.func33, Tryd.ntmps33
  go_wp2_with (go_at_call 49; refine (isNode_any _ _).mono ?_; rintro e w' ⟨rfl, rfl⟩)
  exact bodyPost_ret (v := .tuple #[.agg #[.bool false, .int .i64 0, .int .i64 0, .bool false], .int .i64 4]) (by simp [results, Tryd.results33, go_sem]) rfl ⟨rfl, (Kept.refl _ _).alloc _⟩

set_option maxHeartbeats 400000 in
theorem node_yes (b : Nat) (s : PC) (i : Int) (h0 : 0 ≤ i) (h2 : i < 2) (w : World) (h : PAt w b s) :
    Calls Tryd.prog 33 #[.pointer (some ⟨b, 0, none⟩), .int .i64 i] w fun e' w' => e' = .returned (.tuple #[.agg #[.bool (s.up i.toNat), .int .i64 (s.epoch i.toNat), .int .i64 (s.til i.toNat), .bool (s.alone i.toNat)], .int .i64 0]) ∧ Same w w' := by
  have hC := h.cell
  have hl := h.lt
  have hn : isNodeB i = true := by rcases lt2 h0 h2 with rfl | rfl <;> rfl
  go_enter Tryd.func33, Tryd.ntmps33
  go_wp2_with (go_at_call 49; refine (isNode_any _ _).mono ?_; rintro e w' ⟨rfl, rfl⟩)
  exact bodyPost_ret (v := .tuple #[.agg #[.bool (s.up i.toNat), .int .i64 (s.epoch i.toNat), .int .i64 (s.til i.toNat), .bool (s.alone i.toNat)], .int .i64 0]) (by simp [results, Tryd.results33, go_sem]) rfl ⟨rfl, (Kept.refl _ _).alloc _⟩

set_option maxHeartbeats 400000 in
theorem level_noNode (b : Nat) (i k : Int) (hi : isNodeB i = false) (w : World) :
    Calls Tryd.prog 34 #[.pointer (some ⟨b, 0, none⟩), .int .i64 i, .int .i64 k] w fun e' w' => e' = .returned (.tuple #[.int .i64 0, .int .i64 0, .int .i64 4]) ∧ ∃ q, w' = w.drewN q := by
  go_enter Tryd.func34, Tryd.ntmps34
  go_wp2_with (go_at_call 49; refine (isNode_any _ _).mono ?_; rintro e w' ⟨rfl, rfl⟩)
  go_ret3
  exact ⟨rfl, 0, rfl⟩

set_option maxHeartbeats 400000 in
theorem level_noTenant (b : Nat) (s : PC) (i k : Int) (hn : isNodeB i = true) (hk : hasTenantB s k = false) (w : World) (h : PAt w b s) :
    Calls Tryd.prog 34 #[.pointer (some ⟨b, 0, none⟩), .int .i64 i, .int .i64 k] w fun e' w' => e' = .returned (.tuple #[.int .i64 0, .int .i64 0, .int .i64 2]) ∧ ∃ q, w' = w.drewN q := by
  go_enter Tryd.func34, Tryd.ntmps34
  go_wp2_with (first | (go_at_call 49; refine (isNode_any _ _).mono ?_; rintro e w' ⟨rfl, rfl⟩) | (go_at_call 62; refine (hasTenant_any b s k _ h).mono ?_; rintro e w' ⟨rfl, rfl⟩))
  go_ret3
  exact ⟨rfl, 0, rfl⟩

set_option maxHeartbeats 400000 in
theorem level_yes (b : Nat) (s : PC) (i k : Int) (h0 : 0 ≤ i) (h2 : i < 2) (k0 : 0 ≤ k) (kc : k < s.count) (ok : s.Ok) (w : World) (h : PAt w b s) :
    Calls Tryd.prog 34 #[.pointer (some ⟨b, 0, none⟩), .int .i64 i, .int .i64 k] w fun e' w' => e' = .returned (.tuple #[.int .i64 (s.lev i.toNat k.toNat), .int .i64 (s.win i.toNat k.toNat), .int .i64 0]) ∧ ∃ q, w' = w.drewN q := by
  have hC := h.cell
  have hn : isNodeB i = true := by rcases lt2 h0 h2 with rfl | rfl <;> rfl
  have hk : hasTenantB s k = true := by simp [hasTenantB]; omega
  have k4 : k < 4 := by have := ok.count1; omega
  clear ok
  go_enter Tryd.func34, Tryd.ntmps34
  go_wp2_with (first | (go_at_call 49; refine (isNode_any _ _).mono ?_; rintro e w' ⟨rfl, rfl⟩) | (go_at_call 62; refine (hasTenant_any b s k _ h).mono ?_; rintro e w' ⟨rfl, rfl⟩))
  go_quiet (fail)
  go_wp2
  go_ret3
  exact ⟨rfl, _, rfl⟩

def isEndB (n : Int) : Bool := isNodeB n || n == 2

set_option maxHeartbeats 400000 in
theorem isEnd_any (n : Int) (w : World) :
    Calls Tryd.prog 45 #[.int .i64 n] w fun e w' => e = .returned (.bool (isEndB n)) ∧ w' = w := by
  cases h : isNodeB n
  all_goals
    go_enter Tryd.func45, Tryd.ntmps45
    go_wp2_with (go_at_call 49; refine (isNode_any _ _).mono ?_; rintro e w' ⟨rfl, rfl⟩)
    go_ret
    exact ⟨by simp [isEndB, h], rfl⟩

def isModeB (n : Int) : Bool := n == 0 || n == 1 || n == 2

set_option maxHeartbeats 400000 in
theorem isMode_any (n : Int) (w : World) :
    Calls Tryd.prog 46 #[.int .i64 n] w fun e w' => e = .returned (.bool (isModeB n)) ∧ w' = w := by
  by_cases h0 : n = 0
  · subst h0
    go_enter Tryd.func46, Tryd.ntmps46
    go_wp2
    go_ret
    exact ⟨rfl, rfl⟩
  · have e0 : (n == 0) = false := by simp [h0]
    by_cases h1 : n = 1
    · subst h1
      go_enter Tryd.func46, Tryd.ntmps46
      go_wp2
      go_ret
      exact ⟨rfl, rfl⟩
    · have e1 : (n == 1) = false := by simp [h1]
      go_enter Tryd.func46, Tryd.ntmps46
      go_wp2
      go_ret
      exact ⟨by simp [isModeB, e0, e1], rfl⟩

set_option maxHeartbeats 400000 in
theorem linkBetween_any (a c : Int) (a0 : 0 ≤ a) (a1 : a ≤ 2) (c0 : 0 ≤ c) (c1 : c ≤ 2) (w : World) :
    Calls Tryd.prog 47 #[.int .i64 a, .int .i64 c] w fun e w' => e = .returned (.int .i64 (a + c - 1)) ∧ w' = w := by
  go_enter Tryd.func47, Tryd.ntmps47
  go_wp2
  go_ret
  exact ⟨rfl, rfl⟩

set_option maxHeartbeats 400000 in
theorem upError_no (b : Nat) (i : Int) (hi : isNodeB i = false) (w : World) :
    Calls Tryd.prog 48 #[.pointer (some ⟨b, 0, none⟩), .int .i64 i] w fun e' w' => e' = .returned (.int .i64 4) ∧ w' = w := by
  go_enter Tryd.func48, Tryd.ntmps48
  go_wp2_with (go_at_call 49; refine (isNode_any _ _).mono ?_; rintro e w' ⟨rfl, rfl⟩)
  go_ret
  exact ⟨rfl, rfl⟩

set_option maxHeartbeats 400000 in
theorem upError_down (b : Nat) (s : PC) (i : Int) (h0 : 0 ≤ i) (h2 : i < 2) (hu : s.up i.toNat = false) (w : World) (h : PAt w b s) :
    Calls Tryd.prog 48 #[.pointer (some ⟨b, 0, none⟩), .int .i64 i] w fun e' w' => e' = .returned (.int .i64 5) ∧ w' = w := by
  have hC := h.cell
  have hn : isNodeB i = true := by rcases lt2 h0 h2 with rfl | rfl <;> rfl
  go_enter Tryd.func48, Tryd.ntmps48
  go_wp2_with (go_at_call 49; refine (isNode_any _ _).mono ?_; rintro e w' ⟨rfl, rfl⟩)
  go_ret
  exact ⟨rfl, rfl⟩

set_option maxHeartbeats 400000 in
theorem upError_up (b : Nat) (s : PC) (i : Int) (h0 : 0 ≤ i) (h2 : i < 2) (hu : s.up i.toNat = true) (w : World) (h : PAt w b s) :
    Calls Tryd.prog 48 #[.pointer (some ⟨b, 0, none⟩), .int .i64 i] w fun e' w' => e' = .returned (.int .i64 0) ∧ w' = w := by
  have hC := h.cell
  have hn : isNodeB i = true := by rcases lt2 h0 h2 with rfl | rfl <;> rfl
  go_enter Tryd.func48, Tryd.ntmps48
  go_wp2_with (go_at_call 49; refine (isNode_any _ _).mono ?_; rintro e w' ⟨rfl, rfl⟩)
  go_ret
  exact ⟨rfl, rfl⟩

end Go.Proofs.YtpfahgogjeignabDoor
