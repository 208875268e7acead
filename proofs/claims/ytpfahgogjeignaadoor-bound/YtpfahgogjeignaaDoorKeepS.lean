/-
  The keeper's within.
-/
import Derived.Test.YtpfahgogjeignaaDoorKeepA
set_option linter.unusedVariables false
set_option linter.unusedSimpArgs false
namespace Go.Proofs.YtpfahgogjeignaaDoor
open Go.RowKit
attribute [local go_sem ↓] Go.wp_at_zero Go.wp_at_succ

/-- The last m of n numbers together. -/
def sfx (C : Nat → Int) (n : Nat) : Nat → Int
  | 0 => 0
  | m + 1 => sfx C n m + C (n - 1 - m)

set_option maxRecDepth 100000 in
set_option maxHeartbeats 2000000 in
theorem within_any (pb po ga gc capA capC n : Nat) (T C : Nat → Int) (R B : Int) (w : World) (pl : pb < w.heap.size) (al : ga < w.heap.size) (cl : gc < w.heap.size)
    (h0 : w.cell? ⟨pb, po, none⟩ = some (.slice (some ⟨ga, 0, none⟩) n capA)) (h1 : w.cell? ⟨pb, po + 1, none⟩ = some (.slice (some ⟨gc, 0, none⟩) n capC))
    (hT : ∀ j, j < n → w.cell? ⟨ga, j, none⟩ = some (.int .i64 (T j))) (hC : ∀ j, j < n → w.cell? ⟨gc, j, none⟩ = some (.int .i64 (C j)))
    (n0 : 0 < n) (nb : (n : Int) < 9000000000000) (r0 : 0 ≤ R) (r1 : R ≤ 1000) (b0 : 0 ≤ B) (b1 : B ≤ 1000000) (t0 : ∀ j, j < n → 0 ≤ T j ∧ T j ≤ T (n - 1)) (t1 : T (n - 1) ≤ 1000000000000) (c0 : ∀ j, j < n → 0 ≤ C j ∧ C j ≤ 2000000)
    (hs : ∀ m, m < n → sfx C n (m + 1) ≤ B + R * (T (n - 1) - T (n - 1 - m))) :
    Calls Tryd.prog 13 #[.pointer (some ⟨pb, po, none⟩), .agg #[.int .i64 R, .int .i64 B]] w fun e w' => e = .returned (.bool true) ∧ Same w w' := by
  have HT : Hid (∀ j, j < n → w.cell? ⟨ga, j, none⟩ = some (.int .i64 (T j))) := hT
  have HC : Hid (∀ j, j < n → w.cell? ⟨gc, j, none⟩ = some (.int .i64 (C j))) := hC
  have HT0 : Hid (∀ j, j < n → 0 ≤ T j ∧ T j ≤ T (n - 1)) := t0
  have HC0 : Hid (∀ j, j < n → 0 ≤ C j ∧ C j ≤ 2000000) := c0
  have HS : Hid (∀ m, m < n → sfx C n (m + 1) ≤ B + R * (T (n - 1) - T (n - 1 - m))) := hs
  have hpos : ∀ m, m ≤ n → 0 ≤ sfx C n m := by
    intro m
    induction m with
    | zero => intro _; exact Int.le_refl _
    | succ m ih =>
      intro hm
      have h1 := ih (by omega)
      have h2 := (c0 (n - 1 - m) (by omega)).1
      show 0 ≤ sfx C n m + C (n - 1 - m)
      omega
  have HP : Hid (∀ m, m ≤ n → 0 ≤ sfx C n m) := hpos
  have HT1 : Hid (T (n - 1) ≤ 1000000000000) := t1
  clear hT hC t0 c0 hs hpos t1
  obtain ⟨N, rfl⟩ : ∃ N, n = N + 1 := ⟨n - 1, by omega⟩
  have hTl : w.cell? ⟨ga, N, none⟩ = some (.int .i64 (T (N + 1 - 1))) := HT.out N (by omega)
  have n1 : (1 : Int) ≤ ((N + 1 : Nat) : Int) := by omega
  have eN : ((N + 1 : Nat) : Int) - 1 = (N : Int) := by omega
  generalize hTn : T (N + 1 - 1) = Tl at *
  go_enter Tryd.func13, Tryd.ntmps13
  go_wp2_with fail
  go_loopw [6, 7] (fun x y wr => ∃ m : Nat, m ≤ N + 1 ∧ x = .int .i64 (sfx C (N + 1) m) ∧ y = .int .i64 ((N : Int) - m) ∧ ∃ q, wr = (w.alloc (.cells #[.int .i64 R, .int .i64 B] 56)).drewN q) (fun _ y _ => (intOf y + 1).toNat)
  case atStart => exact ⟨0, by omega, rfl, by simp, 0, rfl⟩
  case round =>
    obtain ⟨m, hm, rfl, rfl, q, rfl⟩ := hrel
    by_cases hlt : m < N + 1
    · obtain ⟨j, hj⟩ := Int.eq_ofNat_of_zero_le (show 0 ≤ (N : Int) - m by omega)
      have hjn : j = N + 1 - 1 - m := by omega
      have hjl : j < N + 1 := by omega
      have hji : (j : Int) < ((N + 1 : Nat) : Int) := by omega
      have cT := HT.out j hjl
      have cC := HC.out j hjl
      obtain ⟨u0, u1⟩ := HT0.out j hjl
      obtain ⟨v0, v1⟩ := HC0.out j hjl
      have s1 := HS.out m hlt
      rw [← hjn] at s1
      have s0 := HP.out m hm
      have tl := HT1.out
      have es : sfx C (N + 1) (m + 1) = sfx C (N + 1) m + C j := by
        show sfx C (N + 1) m + C (N + 1 - 1 - m) = _
        rw [← hjn]
      rw [es] at s1
      have p0 : 0 ≤ R * (Tl - T j) := Int.mul_nonneg r0 (by omega)
      have p1 : R * (Tl - T j) ≤ 1000000000000000 := by
        calc R * (Tl - T j) ≤ 1000 * (Tl - T j) := Int.mul_le_mul_of_nonneg_right r1 (by omega)
          _ ≤ 1000 * 1000000000000 := Int.mul_le_mul_of_nonneg_left (by omega) (by omega)
          _ = _ := by omega
      rw [hj]
      have MS : Hid ((N : Int) - m = (j : Int)) := hj
      have ES : Hid (sfx C (N + 1) (m + 1) = sfx C (N + 1) m + C j) := es
      generalize sfx C (N + 1) m = sm at *
      have w1 : IntKind.i64.wrap (Tl - T j) = Tl - T j := by rw [IntKind.wrap_i64]; omega
      have w2 : IntKind.i64.wrap (R * (Tl - T j)) = R * (Tl - T j) := by rw [IntKind.wrap_i64]; omega
      have w3 : IntKind.i64.wrap (B + R * (Tl - T j)) = B + R * (Tl - T j) := by rw [IntKind.wrap_i64]; omega
      have w4 : IntKind.i64.wrap (N : Int) = (N : Int) := by rw [IntKind.wrap_i64]; omega
      have w5 : IntKind.i64.wrap (((N + 1 : Nat) : Int) - 1) = (N : Int) := by rw [IntKind.wrap_i64]; omega
      have hd : decide (B + R * (Tl - T j) < sm + C j) = false := decide_eq_false (by omega)
      have sb : sm + C j ≤ 9000000000000000 := by omega
      have S1 : Hid (sm + C j ≤ B + R * (Tl - T j)) := s1
      have i1 : (N : Int) < ((N + 1 : Nat) : Int) := by omega
      clear s1 es hj p0 p1 hjn
      go_wp2_with fail
      go_quiet (fail)
      go_wp2_with fail
      have ms := MS.out
      refine ⟨⟨m + 1, by omega, by rw [ES.out], ?_, q + nq, rfl⟩, by first | (simp [intOf]; done) | (simp [intOf]; omega)⟩
      have : (j : Int) - 1 = (N : Int) - ((m + 1 : Nat) : Int) := by omega
      rw [this]
    · have hmn : m = N + 1 := by omega
      subst hmn
      rw [show (N : Int) - ((N + 1 : Nat) : Int) = -1 by omega]
      go_wp2_with fail
      go_ret
      exact ⟨rfl, (Kept.alloc (Kept.refl _ _) _).drewN _⟩

end Go.Proofs.YtpfahgogjeignaaDoor
