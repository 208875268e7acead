/-
  Calm: a node's levels outlive its crash; the plain reckoning, and the keeper's lasting.
-/
import Derived.Test.YtpfahgogjeignabWaitC
import Derived.Test.YtpfahgogjeignabKeepP
set_option linter.unusedVariables false
set_option linter.unusedSimpArgs false
namespace Go.Proofs.Ytpfahgogjeignab
open Go.RowKit
attribute [local go_sem ↓] Go.wp_at_zero Go.wp_at_succ

/-- All is up and works, node i is the holder, nobody acts alone. -/
structure Cal (s : PC) (i n : Nat) (le now : Int) : Prop where
  ok : s.Ok
  up : ∀ j, j < 2 → s.up j = true
  link : ∀ j, j < 3 → s.link j = 0
  holder : s.holder = (i : Int)
  solo : s.solo = false
  wt : s.wtil = now + le
  cnt : s.count = (n : Int)
  lease : s.lease = le
  nw : s.now = now
theorem crash_pok {s : PC} (ok : s.Ok) (i : Nat) : (s.crashed i).Ok := by
  have d0 := ok.win0
  refine ⟨ok.lease0, ok.lease1, ok.win0, ok.win1, ok.count0, ok.count1, ok.rate0, ok.rate1, ok.burst0, ok.burst1, ok.fits, ok.now0, ok.now1, ok.lev0, ok.lev1, ?_, ?_⟩
  · intro j q
    show 0 ≤ upd s.win i (fun _ => 0) j q
    unfold upd
    split
    · exact Int.le_refl _
    · exact ok.wn0 j q
  · intro j q
    show upd s.win i (fun _ => 0) j q ≤ s.window
    unfold upd
    split
    · exact d0
    · exact ok.wn1 j q
theorem start_pok {s : PC} (ok : s.Ok) (i : Nat) : (s.started i).Ok :=
  ⟨ok.lease0, ok.lease1, ok.win0, ok.win1, ok.count0, ok.count1, ok.rate0, ok.rate1, ok.burst0, ok.burst1, ok.fits, ok.now0, ok.now1, ok.lev0, ok.lev1, ok.wn0, ok.wn1⟩
theorem cal_again {s : PC} {i n : Nat} {le now : Int} (h : Cal s i n le now) (hi : i < 2) : Cal ((s.crashed i).started i) i n le now := by
  refine ⟨start_pok (crash_pok h.ok i) i, fun j hj => ?_, h.link, h.holder, h.solo, h.wt, h.cnt, h.lease, h.nw⟩
  show upd (upd s.up i false) i true j = true
  unfold upd
  split
  · rfl
  · exact h.up j hj
theorem crash_win (s : PC) (i k : Nat) : (s.crashed i).win i k = 0 := by
  show upd s.win i (fun _ => 0) i k = 0
  rw [upd_same]

set_option maxRecDepth 100000 in
set_option maxHeartbeats 2000000 in
theorem lasting_any (b i n : Nat) (le now : Int) (s : PC) (hs : Cal s i n le now) (hi : i < 2) (w : World) (hp : PAt w b s) :
    Calls Try.prog 14 #[.pointer (some ⟨b, 0, none⟩), .int .i64 (i : Int), .int .i64 (n : Int)] w fun e w' => e = .returned (.bool true) ∧ ∃ s', Cal s' i n le now ∧ PAt w' b s' ∧ Wrote b w w' := by
  have n4 : (n : Int) ≤ 4 := by have := hs.ok.count1; have := hs.cnt; omega
  have HS : Hid (Cal s i n le now) := hs
  have HP : Hid (PAt w b s) := hp
  clear hs hp
  go_enter Try.func14, Try.ntmps14
  go_wp2_with fail
  go_loopw [7] (fun x wr => ∃ (k : Nat) (s' : PC), k ≤ n ∧ x = .int .i64 k ∧ Cal s' i n le now ∧ PAt wr b s' ∧ Wrote b w wr) (fun x _ => n - (intOf x).toNat)
  case atStart => exact ⟨0, s, by omega, rfl, HS.out, HP.out, Kept.refl _ _⟩
  case round =>
    obtain ⟨k, s', hk, rfl, hs, hp, hkk⟩ := hrel
    clear HS HP
    by_cases hlt : k < n
    · have hki : (k : Int) < n := by omega
      have hc := hs.cnt
      have L0 := fun W hW => level_at b s' hs.ok i k hi (by omega) W hW
      have C0 := fun W hW => crash_yes b s' (i : Int) (by omega) (by omega) (by rw [Int.toNat_natCast]; exact hs.up i hi) W hW
      have L1 := fun W hW => level_at b (s'.crashed i) (crash_pok hs.ok i) i k hi (by show (k : Int) < s'.count; omega) W hW
      have S1 := fun W hW => start_yes b (s'.crashed i) (i : Int) (by omega) (by omega) (by rw [Int.toNat_natCast]; exact upd_same _ _ _) W hW
      have L2 := fun W hW => level_at b ((s'.crashed i).started i) (start_pok (crash_pok hs.ok i) i) i k hi (by show (k : Int) < s'.count; omega) W hW
      rw [Int.toNat_natCast] at C0 S1
      have el1 : (s'.crashed i).lev i k = s'.lev i k := rfl
      have el2 : ((s'.crashed i).started i).lev i k = s'.lev i k := rfl
      have ew1 := crash_win s' i k
      have ew2 : ((s'.crashed i).started i).win i k = 0 := crash_win s' i k
      rw [el1, ew1] at L1
      rw [el2, ew2] at L2
      have HN : Hid (Cal ((s'.crashed i).started i) i n le now) := cal_again hs hi
      have HL0 : Hid (∀ W, PAt W b s' → Calls Try.prog 29 #[.pointer (some ⟨b, 0, none⟩), .int .i64 (i : Int), .int .i64 (k : Int)] W fun e' w' => e' = .returned (.tuple #[.int .i64 (s'.lev i k), .int .i64 (s'.win i k), .int .i64 0]) ∧ ∃ q, w' = W.drewN q) := L0
      have HC0 : Hid (∀ W, PAt W b s' → Calls Try.prog 15 #[.pointer (some ⟨b, 0, none⟩), .int .i64 (i : Int)] W fun e' w' => e' = .returned (.int .i64 0) ∧ PAt w' b (s'.crashed i) ∧ Wrote b W w') := C0
      have HL1 : Hid (∀ W, PAt W b (s'.crashed i) → Calls Try.prog 29 #[.pointer (some ⟨b, 0, none⟩), .int .i64 (i : Int), .int .i64 (k : Int)] W fun e' w' => e' = .returned (.tuple #[.int .i64 (s'.lev i k), .int .i64 0, .int .i64 0]) ∧ ∃ q, w' = W.drewN q) := L1
      have HS1 : Hid (∀ W, PAt W b (s'.crashed i) → Calls Try.prog 21 #[.pointer (some ⟨b, 0, none⟩), .int .i64 (i : Int)] W fun e' w' => e' = .returned (.int .i64 0) ∧ PAt w' b ((s'.crashed i).started i) ∧ Wrote b W w') := S1
      have HL2 : Hid (∀ W, PAt W b ((s'.crashed i).started i) → Calls Try.prog 29 #[.pointer (some ⟨b, 0, none⟩), .int .i64 (i : Int), .int .i64 (k : Int)] W fun e' w' => e' = .returned (.tuple #[.int .i64 (s'.lev i k), .int .i64 0, .int .i64 0]) ∧ ∃ q, w' = W.drewN q) := L2
      clear L0 C0 L1 S1 L2 el1 el2 ew1 ew2 hs hc
      generalize (s'.crashed i).started i = s2 at *
      generalize s'.crashed i = s1 at *
      generalize s'.lev i k = lv at *
      generalize s'.win i k = wn at *
      go_wp2_with fail
      refine (HL0.out _ hp).mono ?_
      rintro e w1 ⟨rfl, q1, rfl⟩
      go_wp2_with fail
      refine (HC0.out _ (PAt.drewN hp q1)).mono ?_
      rintro e w2 ⟨rfl, hp2, k2⟩
      go_wp2_with fail
      refine (HL1.out _ hp2).mono ?_
      rintro e w3 ⟨rfl, q3, rfl⟩
      go_wp2_with fail
      refine (HS1.out _ (PAt.drewN hp2 q3)).mono ?_
      rintro e w4 ⟨rfl, hp4, k4⟩
      go_wp2_with fail
      refine (HL2.out _ hp4).mono ?_
      rintro e w5 ⟨rfl, q5, rfl⟩
      go_wp2_with fail
      exact ⟨⟨k + 1, s2, by omega, by go_num, HN.out, PAt.drewN hp4 q5, (((hkk.drewN q1).trans k2).drewN q3 |>.trans k4).drewN q5⟩, by simp [intOf]; omega⟩
    · have hge : decide ((k : Int) < (n : Int)) = false := decide_eq_false (by omega)
      go_wp2_with fail
      go_ret
      exact ⟨rfl, s', hs, hp, hkk⟩

end Go.Proofs.Ytpfahgogjeignab
