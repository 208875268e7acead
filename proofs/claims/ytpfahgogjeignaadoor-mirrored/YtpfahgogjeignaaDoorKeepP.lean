/-
  The keeper's mirrored.
-/
import Derived.Test.YtpfahgogjeignaaDoorKeepH
set_option linter.unusedVariables false
set_option linter.unusedSimpArgs false
namespace Go.Proofs.YtpfahgogjeignaaDoor
open Go.RowKit
attribute [local go_sem ↓] Go.wp_at_zero Go.wp_at_succ

theorem level_at (b : Nat) (s : PC) (ok : s.Ok) (i k : Nat) (hi : i < 2) (hk : (k : Int) < s.count) (w : World) (h : PAt w b s) :
    Calls Tryd.prog 40 #[.pointer (some ⟨b, 0, none⟩), .int .i64 (i : Int), .int .i64 (k : Int)] w fun e' w' => e' = .returned (.tuple #[.int .i64 (s.lev i k), .int .i64 (s.win i k), .int .i64 0]) ∧ ∃ q, w' = w.drewN q := by
  have := level_yes b s (i : Int) (k : Int) (by omega) (by omega) (by omega) hk ok w h
  rw [Int.toNat_natCast, Int.toNat_natCast] at this
  exact this

set_option maxRecDepth 100000 in
set_option maxHeartbeats 1000000 in
theorem mirrored_any (b n : Nat) (s : PC) (ok : s.Ok) (hn : s.count = (n : Int)) (he : ∀ k, k < n → s.lev 0 k = s.lev 1 k) (w : World) (h : PAt w b s) :
    Calls Tryd.prog 14 #[.pointer (some ⟨b, 0, none⟩), .int .i64 (n : Int)] w fun e' w' => e' = .returned (.bool true) ∧ ∃ q, w' = w.drewN q := by
  have n4 : (n : Int) ≤ 4 := by have := ok.count1; omega
  have HE : Hid (∀ k, k < n → s.lev 0 k = s.lev 1 k) := he
  have HL0 : Hid (∀ (k q : Nat), k < n → Calls Tryd.prog 40 #[.pointer (some ⟨b, 0, none⟩), .int .i64 0, .int .i64 (k : Int)] (w.drewN q) fun e' w' => e' = .returned (.tuple #[.int .i64 (s.lev 0 k), .int .i64 (s.win 0 k), .int .i64 0]) ∧ ∃ q', w' = (w.drewN q).drewN q') := fun k q hk => level_at b s ok 0 k (by omega) (by omega) _ (h.drewN q)
  have HL1 : Hid (∀ (k q : Nat), k < n → Calls Tryd.prog 40 #[.pointer (some ⟨b, 0, none⟩), .int .i64 1, .int .i64 (k : Int)] (w.drewN q) fun e' w' => e' = .returned (.tuple #[.int .i64 (s.lev 1 k), .int .i64 (s.win 1 k), .int .i64 0]) ∧ ∃ q', w' = (w.drewN q).drewN q') := fun k q hk => level_at b s ok 1 k (by omega) (by omega) _ (h.drewN q)
  clear he hn h ok
  go_enter Tryd.func14, Tryd.ntmps14
  go_wp2_with fail
  go_loopw [5] (fun x wr => ∃ (k q : Nat), k ≤ n ∧ x = .int .i64 k ∧ wr = w.drewN q) (fun x _ => n - (intOf x).toNat)
  case atStart => exact ⟨0, 0, by omega, rfl, rfl⟩
  case round =>
    obtain ⟨k, q, hk, rfl, rfl⟩ := hrel
    by_cases hlt : k < n
    · have hki : (k : Int) < n := by omega
      have ee := HE.out k hlt
      go_wp2_with fail
      refine (HL0.out k q hlt).mono ?_
      rintro e w2 ⟨rfl, q2, rfl⟩
      go_wp2_with fail
      refine (HL1.out k (q + q2) hlt).mono ?_
      rintro e w3 ⟨rfl, q3, rfl⟩
      go_wp2_with fail
      exact ⟨⟨k + 1, q + q2 + q3, by omega, by go_num, rfl⟩, by simp [intOf]; omega⟩
    · have hge : decide ((k : Int) < (n : Int)) = false := decide_eq_false (by omega)
      go_wp2_with fail
      go_ret
      exact ⟨rfl, _, rfl⟩

end Go.Proofs.YtpfahgogjeignaaDoor
