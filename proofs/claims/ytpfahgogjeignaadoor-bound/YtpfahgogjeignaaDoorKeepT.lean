/-
  What was let by, and when: plain reckoning.
-/
import Derived.Test.YtpfahgogjeignaaDoorKeepS
import Derived.Test.YtpfahgogjeignaaDoorPlainB
set_option linter.unusedVariables false
set_option linter.unusedSimpArgs false
namespace Go.Proofs.YtpfahgogjeignaaDoor
open Go.RowKit

/-- n requests were let by, at the times T, with the costs C; g and u bound what may still be. -/
structure Hist (T C : Nat → Int) (n : Nat) (now g u B R : Int) : Prop where
  t0 : ∀ j, j < n → 0 ≤ T j ∧ T j ≤ now
  mono : ∀ j j', j ≤ j' → j' < n → T j ≤ T j'
  c0 : ∀ j, j < n → 1 ≤ C j ∧ C j ≤ 2000000
  sum : ∀ m, m < n → sfx C n (m + 1) + g + u ≤ B + R * (now - T (n - 1 - m))

theorem hist_nil (T C : Nat → Int) (now g u B R : Int) : Hist T C 0 now g u B R :=
  ⟨fun j h => absurd h (Nat.not_lt_zero _), fun j j' _ h => absurd h (Nat.not_lt_zero _), fun j h => absurd h (Nat.not_lt_zero _), fun j h => absurd h (Nat.not_lt_zero _)⟩
/-- Time goes by, or nothing is let by. -/
theorem hist_time {T C : Nat → Int} {n : Nat} {now g u B R : Int} (h : Hist T C n now g u B R) (t g' u' : Int) (t0 : 0 ≤ t) (hg : g' + u' ≤ g + u + R * t) : Hist T C n (now + t) g' u' B R := by
  refine ⟨fun j hj => ?_, h.mono, h.c0, fun m hm => ?_⟩
  · have := h.t0 j hj
    omega
  · have h1 := h.sum m hm
    have e : R * (now + t - T (n - 1 - m)) = R * (now - T (n - 1 - m)) + R * t := by
      rw [← Int.mul_add]
      congr 1
      omega
    rw [e]
    omega
theorem sfx_ext {C C' : Nat → Int} {n : Nat} (h : ∀ j, j < n → C j = C' j) : ∀ m, m ≤ n → sfx C n m = sfx C' n m := by
  intro m
  induction m with
  | zero => intro _; rfl
  | succ m ih =>
    intro hm
    show sfx C n m + C (n - 1 - m) = sfx C' n m + C' (n - 1 - m)
    rw [ih (by omega), h _ (by omega)]
theorem sfx_push (C : Nat → Int) (n : Nat) (c : Int) : ∀ m, m ≤ n → sfx (upd C n c) (n + 1) (m + 1) = c + sfx C n m := by
  intro m
  induction m with
  | zero =>
    intro _
    show 0 + upd C n c (n + 1 - 1 - 0) = c + 0
    rw [show n + 1 - 1 - 0 = n by omega, upd_same]
    omega
  | succ m ih =>
    intro hm
    show sfx (upd C n c) (n + 1) (m + 1) + upd C n c (n + 1 - 1 - (m + 1)) = c + (sfx C n m + C (n - 1 - m))
    rw [ih (by omega), upd_other _ _ (by omega), show n + 1 - 1 - (m + 1) = n - 1 - m by omega]
    omega
/-- A request is let by. -/
theorem hist_push {T C : Nat → Int} {n : Nat} {now g u B R : Int} (h : Hist T C n now g u B R) (c g' u' : Int) (n0 : 0 ≤ now) (c0 : 1 ≤ c) (c1 : c ≤ 2000000) (hb : g + u ≤ B) (hg : g' + u' + c ≤ g + u) : Hist (upd T n now) (upd C n c) (n + 1) now g' u' B R := by
  refine ⟨fun j hj => ?_, fun j j' hjj hj' => ?_, fun j hj => ?_, fun m hm => ?_⟩
  · by_cases e : j = n
    · rw [e, upd_same]; omega
    · rw [upd_other _ _ e]; exact h.t0 j (by omega)
  · by_cases e' : j' = n
    · rw [e', upd_same]
      by_cases e : j = n
      · rw [e, upd_same]; exact Int.le_refl _
      · rw [upd_other _ _ e]; exact (h.t0 j (by omega)).2
    · rw [upd_other _ _ e', upd_other _ _ (by omega)]
      exact h.mono j j' hjj (by omega)
  · by_cases e : j = n
    · rw [e, upd_same]; omega
    · rw [upd_other _ _ e]; exact h.c0 j (by omega)
  · rw [sfx_push C n c m (by omega)]
    cases m with
    | zero =>
      rw [show n + 1 - 1 - 0 = n by omega, upd_same, Int.sub_self, Int.mul_zero]
      show c + 0 + g' + u' ≤ B + 0
      omega
    | succ m =>
      have h1 := h.sum m (by omega)
      rw [upd_other _ _ (by omega), show n + 1 - 1 - (m + 1) = n - 1 - m by omega]
      omega
/-- What within asks. -/
theorem hist_within {T C : Nat → Int} {n : Nat} {now g u B R : Int} (h : Hist T C n now g u B R) (g0 : 0 ≤ g) (u0 : 0 ≤ u) (hl : ∀ j, n = j + 1 → T j = now) : ∀ m, m < n → sfx C n (m + 1) ≤ B + R * (T (n - 1) - T (n - 1 - m)) := by
  intro m hm
  have h1 := h.sum m hm
  rw [hl (n - 1) (by omega)]
  omega
theorem bud_bound {s : PC} {k : Nat} {g u : Int} (h : Bud s k g u) : g + u ≤ s.burst k := by
  have h1 := h.gr
  have h2 := h.u1
  omega

end Go.Proofs.YtpfahgogjeignaaDoor
