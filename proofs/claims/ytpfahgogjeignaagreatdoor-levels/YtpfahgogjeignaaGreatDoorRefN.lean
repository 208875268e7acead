/-
  The document's Wait.
-/
import Derived.Test.YtpfahgogjeignaaGreatDoorRefL
import Derived.Test.YtpfahgogjeignaaGreatDoorProM
set_option linter.unusedVariables false
set_option linter.unusedSimpArgs false
namespace Go.Proofs.YtpfahgogjeignaaGreatDoor
open Go.RowKit
attribute [local go_sem] rg0 rg1 rg2 rg3 rg4 rg5 rg6 rg7 rg8 rg9 rg10 sg0 sg1 sg2 sg3 sg4 sg5 mg0 mg1 mg2 mgk fArr_get

theorem rgrown_add1 (s : RS) (k : Nat) (l : Int) (d : Nat) (r0 : 0 ≤ s.rate k) : s.grown k (s.grown k l (d : Int)) 1 = s.grown k l ((d + 1 : Nat) : Int) := by
  unfold RS.grown
  have e : s.rate k * ((d + 1 : Nat) : Int) = s.rate k * (d : Int) + s.rate k := by
    rw [Int.natCast_add, Int.mul_add]
    simp
  rw [e, Int.mul_one]
  generalize s.rate k * (d : Int) = x
  by_cases h1 : s.room k < l + x
  · rw [if_pos h1]
    by_cases h2 : s.room k < s.room k + s.rate k
    · rw [if_pos h2, if_pos (by omega)]
    · rw [if_neg h2, if_pos (by omega)]; omega
  · rw [if_neg h1]
    by_cases h2 : s.room k < l + x + s.rate k
    · rw [if_pos h2, if_pos (by omega)]
    · rw [if_neg h2, if_neg (by omega)]; omega

set_option maxHeartbeats 1000000 in
theorem rwait_wrong (A : RA) (s : RS) (i k cost : Int) (hw : s.wrong i k cost ≠ 0) (w : World) (h : RAt w A s) :
    Calls Tryz.prog 40 #[.pointer (some ⟨A.c, 0, none⟩), .int .i64 i, .int .i64 k, .int .i64 cost] w fun e w' => e = .returned (.tuple #[.int .i64 0, .int .i64 (s.wrong i k cost)]) ∧ Same w w' := by
  have e1 : (s.wrong i k cost != 0) = true := by simp [hw]
  go_enter Tryz.func40, Tryz.ntmps40
  go_wp2_with (go_at_call 71; refine (rwrong_any A s i k cost _ h).mono ?_; rintro e w' ⟨rfl, rfl⟩)
  go_ret2
  exact ⟨rfl, Kept.refl _ _⟩

set_option maxRecDepth 100000 in
set_option maxHeartbeats 1000000 in
theorem rwait_yes (A : RA) (s : RS) (i k cost : Int) (hw : s.wrong i k cost = 0) (h0 : 0 ≤ i) (h2 : i < 2) (k0 : 0 ≤ k) (kn : k < s.n) (c0 : 1 ≤ cost) (c1 : cost ≤ 2000000) (w0 : 0 ≤ s.win i.toNat k.toNat) (w1 : s.win i.toNat k.toNat ≤ 1000000) (ok : s.Ok) (w : World) (h : RAt w A s) :
    Calls Tryz.prog 40 #[.pointer (some ⟨A.c, 0, none⟩), .int .i64 i, .int .i64 k, .int .i64 cost] w fun e w' => ∃ v, e = .returned (.tuple #[.int .i64 v, .int .i64 0]) ∧ WaitIs (fun t => s.grown k.toNat (s.level i.toNat k.toNat) t) (cost - s.win i.toNat k.toNat) v ∧ w' = w := by
  have hC := h.c.cell
  have i2 : i.toNat < 2 := by omega
  have kn2 : k.toNat < s.n := by omega
  have hS := (h.side i.toNat i2).cell
  have hp := h.sp i.toNat i2
  have hW := (h.win i.toNat i2).cell
  have hR := h.rate.2 k.toNat kn2
  have hO := h.room.2 k.toNat kn2
  obtain ⟨l0, l1⟩ := level_bd ok i.toNat k.toNat i2 kn2
  have l2 := ok.room1 k.toNat
  have o0 := ok.room0 k.toNat
  have r0 := ok.rate0 k.toNat
  have r1 := ok.rate1 k.toNat
  have hg0 : s.grown k.toNat (s.level i.toNat k.toNat) ((0 : Nat) : Int) = s.level i.toNat k.toNat := by
    unfold RS.grown
    rw [show ((0 : Nat) : Int) = 0 from rfl, Int.mul_zero, Int.add_zero]
    exact if_neg (by omega)
  have HG0 : Hid (s.grown k.toNat (s.level i.toNat k.toNat) ((0 : Nat) : Int) = s.level i.toNat k.toNat) := hg0
  have hgb : ∀ d : Nat, 0 ≤ s.grown k.toNat (s.level i.toNat k.toNat) (d : Int) ∧ s.grown k.toNat (s.level i.toNat k.toNat) (d : Int) ≤ s.room k.toNat := fun d => rgrown_bd ok k.toNat _ _ l0 (by omega)
  have HGB : Hid (∀ d : Nat, 0 ≤ s.grown k.toNat (s.level i.toNat k.toNat) (d : Int) ∧ s.grown k.toNat (s.level i.toNat k.toNat) (d : Int) ≤ s.room k.toNat) := hgb
  have HGA : Hid (∀ d : Nat, s.grown k.toNat (s.grown k.toNat (s.level i.toNat k.toNat) (d : Int)) 1 = s.grown k.toNat (s.level i.toNat k.toNat) ((d + 1 : Nat) : Int)) := fun d => rgrown_add1 s k.toNat _ d r0
  have HL : Hid (Calls Tryz.prog 73 #[.pointer (some ⟨A.c, 0, none⟩), .int .i64 i, .int .i64 k] w fun e w' => e = .returned (.int .i64 (s.level i.toNat k.toNat)) ∧ w' = w) := rlevel_any A s i k h0 h2 k0 kn w h ok
  have HGR : Hid (∀ l, 0 ≤ l → l ≤ 1000000 → Calls Tryz.prog 79 #[.pointer (some ⟨A.c, 0, none⟩), .int .i64 k, .int .i64 l, .int .i64 1] w fun e w' => e = .returned (.int .i64 (s.grown k.toNat l 1)) ∧ w' = w) := fun l a b => rgrown_any A s k l 1 k0 kn a b (by omega) (by omega) w h ok
  have HRT : Hid (s.rate k.toNat = 0 → ∀ d : Nat, s.grown k.toNat (s.level i.toNat k.toNat) (d : Int) = s.level i.toNat k.toNat) := by
    intro hz d
    unfold RS.grown
    rw [hz, Int.zero_mul, Int.add_zero]
    exact if_neg (by omega)
  have HST : Hid (∀ d : Nat, s.rate k.toNat ≠ 0 → s.grown k.toNat (s.level i.toNat k.toNat) (d : Int) ≠ s.room k.toNat → s.grown k.toNat (s.level i.toNat k.toNat) (d : Int) + 1 ≤ s.grown k.toNat (s.level i.toNat k.toNat) ((d + 1 : Nat) : Int)) := by
    intro d hz hne
    rw [← HGA.out d]
    have := (hgb d).2
    generalize s.grown k.toNat (s.level i.toNat k.toNat) (d : Int) = x at *
    unfold RS.grown
    rw [Int.mul_one]
    split <;> omega
  have HWR : Hid (Calls Tryz.prog 71 #[.pointer (some ⟨A.c, 0, none⟩), .int .i64 i, .int .i64 k, .int .i64 cost] w fun e w' => e = .returned (.int .i64 0) ∧ w' = w) := by
    have := rwrong_any A s i k cost w h
    rw [hw] at this
    exact this
  clear hg0 hgb h ok hw
  generalize hf : (fun t => s.grown k.toNat (s.level i.toNat k.toNat) t) = f
  have HF : Hid (∀ t, s.grown k.toNat (s.level i.toNat k.toNat) t = f t) := fun t => by rw [← hf]
  clear hf
  go_enter Tryz.func40, Tryz.ntmps40
  go_wp2_with (first | (go_at_call 71; refine HWR.out.mono ?_; rintro e w' ⟨rfl, hw'⟩; subst hw') | (go_at_call 73; refine HL.out.mono ?_; rintro e w' ⟨rfl, hw'⟩; subst hw'))
  go_loop [8, 9, 12, 13] (fun _ _ x y => ∃ d : Nat, x = .int .i64 (f d) ∧ y = .int .i64 d ∧ (d : Int) ≤ f d ∧ ∀ e : Nat, e < d → f e < cost - s.win i.toNat k.toNat) (fun _ _ x _ => (s.room k.toNat - intOf x).toNat)
  case atStart =>
    refine ⟨0, ?_, rfl, ?_, fun e he => absurd he (Nat.not_lt_zero _)⟩
    · rw [← HF.out, HG0.out]
    · rw [← HF.out, HG0.out]; exact l0
  case round =>
    obtain ⟨d, rfl, rfl, hd, hno⟩ := hrel
    have HNO : Hid (∀ e : Nat, e < d → f e < cost - s.win i.toNat k.toNat) := hno
    have fb := HGB.out d
    have fb1 := HGB.out (d + 1)
    rw [HF.out] at fb fb1
    obtain ⟨f0, f1⟩ := fb
    obtain ⟨f2, f3⟩ := fb1
    have f4 : f d ≤ 1000000 := by omega
    clear hno
    by_cases hlt : f d < cost - s.win i.toNat k.toNat
    · by_cases hz : s.rate k.toNat = 0
      · have fin : WaitIs f (cost - s.win i.toNat k.toNat) (-1) := .inl ⟨rfl, fun d' => by
          have e1 := HRT.out hz d'
          have e2 := HRT.out hz d
          rw [HF.out] at e1 e2
          omega⟩
        have FIN : Hid (WaitIs f (cost - s.win i.toNat k.toNat) (-1)) := fin
        have ez : (s.rate k.toNat == 0) = true := by simp [hz]
        clear hz fin
        go_wp2_with fail
        go_ret2
        exact ⟨_, rfl, FIN.out, rfl⟩
      · have ez : (s.rate k.toNat == 0) = false := by simp [hz]
        by_cases hrm : f d = s.room k.toNat
        · have fin : WaitIs f (cost - s.win i.toNat k.toNat) (-1) := .inl ⟨rfl, fun d' => by
            have e1 := (HGB.out d').2
            rw [HF.out] at e1
            omega⟩
          have FIN : Hid (WaitIs f (cost - s.win i.toNat k.toNat) (-1)) := fin
          have er : (f d == s.room k.toNat) = true := by simp [hrm]
          clear hz fin hrm
          go_wp2_with fail
          go_ret2
          exact ⟨_, rfl, FIN.out, rfl⟩
        · have er : (f d == s.room k.toNat) = false := by simp [hrm]
          have st := HST.out d hz (by rw [HF.out]; exact hrm)
          rw [HF.out, HF.out] at st
          have HG1 : Hid (s.grown k.toNat (f d) 1 = f ((d + 1 : Nat) : Int)) := by
            have := HGA.out d
            rw [HF.out, HF.out] at this
            exact this
          have hdb : (d : Int) ≤ 1000000 := by omega
          have ec : ((d + 1 : Nat) : Int) = (d : Int) + 1 := by omega
          have MS : Hid (f d + 1 ≤ f ((d : Int) + 1) ∧ f ((d : Int) + 1) ≤ s.room k.toNat) := by rw [← ec]; exact ⟨st, f3⟩
          clear ec
          clear hz hrm
          go_wp2_with fail
          refine (HGR.out (f d) f0 f4).mono ?_
          rintro e w2 ⟨rfl, rfl⟩
          rw [HG1.out]
          go_wp2_with fail
          refine ⟨⟨d + 1, rfl, by go_num, by omega, fun e he => ?_⟩, by have := MS.out; simp [intOf]; omega⟩
          rcases Nat.lt_succ_iff_lt_or_eq.1 he with h | h
          · exact HNO.out e h
          · subst h; exact hlt
    · have fin : WaitIs f (cost - s.win i.toNat k.toNat) (d : Int) := .inr ⟨d, rfl, by omega, HNO.out⟩
      have FIN : Hid (WaitIs f (cost - s.win i.toNat k.toNat) (d : Int)) := fin
      clear fin
      go_wp2_with fail
      go_ret2
      exact ⟨_, rfl, FIN.out, rfl⟩

end Go.Proofs.YtpfahgogjeignaaGreatDoor
