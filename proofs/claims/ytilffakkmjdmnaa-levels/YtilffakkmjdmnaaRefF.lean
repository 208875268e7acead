/-
  The document's New: what it refuses; its rows.
-/
import Derived.Test.YtilffakkmjdmnaaRefD
import Derived.Test.YtilffakkmjdmnaaProF
set_option linter.unusedVariables false
set_option linter.unusedSimpArgs false
namespace Go.Proofs.Ytilffakkmjdmnaa
open Go.RowKit
attribute [local go_sem] rg0 rg1 rg2 rg3 rg4 rg5 rg6 rg7 rg8 rg9 rg10 sg0 sg1 sg2 sg3 sg4 sg5 mg0 mg1 mg2 mgk fArr_get

set_option maxHeartbeats 400000 in
theorem rnew_lease (le wi : Int) (a : Option Addr) (n cap : Nat) (w : World) (hl : le < 1 ∨ 1000 < le) :
    Calls Try.prog 34 #[.int .i64 le, .int .i64 wi, .slice a n cap] w fun e w' => e = .returned (.tuple #[.pointer none, .int .i64 1]) ∧ Same w w' := by
  by_cases h1 : le < 1
  · clear hl
    go_enter Try.func34, Try.ntmps34
    go_wp2
    go_ret2
    exact ⟨rfl, Kept.refl _ _⟩
  · have h2 : 1000 < le := by omega
    clear hl
    go_enter Try.func34, Try.ntmps34
    go_wp2
    go_ret2
    exact ⟨rfl, Kept.refl _ _⟩

/-- The least burst of the first k, at most MaxBurst. -/
def leastTo (B : Nat → Int) : Nat → Int
  | 0 => 1000000
  | k + 1 => if B k < leastTo B k then B k else leastTo B k
theorem leastTo_le (B : Nat → Int) (k : Nat) : ∀ j, j < k → leastTo B k ≤ B j := by
  induction k with
  | zero => intro j hj; exact absurd hj (Nat.not_lt_zero _)
  | succ k ih =>
    intro j hj
    show (if B k < leastTo B k then B k else leastTo B k) ≤ B j
    rcases Nat.lt_succ_iff_lt_or_eq.1 hj with hj | rfl
    · have := ih j hj; split <;> omega
    · split <;> omega
theorem leastTo_is (B : Nat → Int) (k : Nat) (x : Int) (hx : x ≤ 1000000) (h : ∀ j, j < k → x ≤ B j) : x ≤ leastTo B k := by
  induction k with
  | zero => exact hx
  | succ k ih =>
    show x ≤ (if B k < leastTo B k then B k else leastTo B k)
    have h1 := h k (by omega)
    have h2 := ih (fun j hj => h j (by omega))
    split <;> omega

set_option maxHeartbeats 1000000 in
theorem rnew_tenants (le wi : Int) (a : Option Addr) (n cap : Nat) (R B : Nat → Int) (w : World) (hT : Ten w a n R B) (l0 : 1 ≤ le) (l1 : le ≤ 1000) (no : ¬ TensOk n R B) :
    Calls Try.prog 34 #[.int .i64 le, .int .i64 wi, .slice a n cap] w fun e w' => e = .returned (.tuple #[.pointer none, .int .i64 2]) ∧ Same w w' := by
  by_cases hn0 : n = 0
  · subst hn0
    go_enter Try.func34, Try.ntmps34
    go_wp2
    go_ret2
    exact ⟨rfl, Kept.refl _ _⟩
  have e0 : ¬ (n : Int) < 1 := by omega
  by_cases hn4 : 4 < n
  · have e4 : 4 < (n : Int) := by omega
    go_enter Try.func34, Try.ntmps34
    go_wp2
    go_ret2
    exact ⟨rfl, Kept.refl _ _⟩
  rcases hT with hT | ⟨b, off, rfl, hb, hR, hB⟩
  · exact absurd hT hn0
  have e4 : (n : Int) ≤ 4 := by omega
  have NO : Hid (¬ TensOk n R B) := no
  clear no
  go_enter Try.func34, Try.ntmps34
  go_wp2
  go_loopw [8, 9] (fun y x wr => ∃ (k : Nat) (m : Int), k ≤ n ∧ (∀ j, j < k → TenOk (R j) (B j)) ∧ x = .int .i64 k ∧ y = .int .i64 m ∧ Same w wr) (fun _ x _ => n - (intOf x).toNat)
  case atStart => exact ⟨0, 1000000, by omega, fun j hj => absurd hj (Nat.not_lt_zero _), rfl, rfl, Kept.refl _ _⟩
  case round =>
    obtain ⟨k, m, hk, hall, rfl, rfl, hS⟩ := hrel
    have HL : Hid (∀ j, j < k → TenOk (R j) (B j)) := hall
    clear hall
    obtain ⟨hc, hf⟩ := kcell hS
    have hsz := hS.size
    by_cases hlt : k < n
    · have cR := hR k hlt
      have cB := hB k hlt
      have hki : (k : Int) < n := by omega
      have hbr : b < wr.heap.size := by omega
      clear hR hB
      by_cases hok : 0 ≤ R k ∧ R k ≤ 1000 ∧ 1 ≤ B k ∧ B k ≤ 1000000
      · have HK : Hid (TenOk (R k) (B k)) := hok
        obtain ⟨r0, r1, b0, b1⟩ := hok
        have nxt : ∀ j, j < k + 1 → TenOk (R j) (B j) := by
          intro j hj
          rcases Nat.lt_succ_iff_lt_or_eq.1 hj with hj | rfl
          · exact HL.out j hj
          · exact HK.out
        have NXT : Hid (∀ j, j < k + 1 → TenOk (R j) (B j)) := nxt
        clear nxt
        by_cases hm : B k < m
        · go_wp2
          exact ⟨⟨k + 1, B k, by omega, NXT.out, by go_num, rfl, hS.alloc _⟩, by simp [intOf]; omega⟩
        · go_wp2
          exact ⟨⟨k + 1, m, by omega, NXT.out, by go_num, rfl, hS.alloc _⟩, by simp [intOf]; omega⟩
      · go_wp2
        all_goals
          go_ret2
          exact ⟨rfl, hS.alloc _⟩
    · exact absurd ⟨hn0, by omega, fun j hj => HL.out j (by omega)⟩ NO.out

set_option maxHeartbeats 1000000 in
theorem rnew_window (le wi : Int) (a : Option Addr) (n cap : Nat) (R B : Nat → Int) (w : World) (hT : Ten w a n R B) (l0 : 1 ≤ le) (l1 : le ≤ 1000) (ok : TensOk n R B) (no : ¬ WinOk wi n B) :
    Calls Try.prog 34 #[.int .i64 le, .int .i64 wi, .slice a n cap] w fun e w' => e = .returned (.tuple #[.pointer none, .int .i64 3]) ∧ Same w w' := by
  obtain ⟨hn0, hn4, hall⟩ := ok
  rcases hT with hT | ⟨b, off, rfl, hb, hR, hB⟩
  · exact absurd hT hn0
  have e0 : ¬ (n : Int) < 1 := by omega
  have e4 : (n : Int) ≤ 4 := by omega
  have hwi : 0 ≤ wi → leastTo B n < wi := by
    intro h
    rcases Int.lt_or_le (leastTo B n) wi with h' | h'
    · exact h'
    · exact absurd ⟨by omega, fun j hj => Int.le_trans h' (leastTo_le B n j hj)⟩ no
  have HW : Hid (0 ≤ wi → leastTo B n < wi) := hwi
  have HALL : Hid (∀ i, i < n → TenOk (R i) (B i)) := hall
  clear no hwi hall
  go_enter Try.func34, Try.ntmps34
  go_wp2
  go_loopw [8, 9] (fun y x wr => ∃ k : Nat, k ≤ n ∧ x = .int .i64 k ∧ y = .int .i64 (leastTo B k) ∧ Same w wr) (fun _ x _ => n - (intOf x).toNat)
  case atStart => exact ⟨0, by omega, rfl, rfl, Kept.refl _ _⟩
  case round =>
    obtain ⟨k, hk, rfl, rfl, hS⟩ := hrel
    obtain ⟨hc, hf⟩ := kcell hS
    have hsz := hS.size
    by_cases hlt : k < n
    · have cR := hR k hlt
      have cB := hB k hlt
      have hki : (k : Int) < n := by omega
      have hbr : b < wr.heap.size := by omega
      obtain ⟨r0, r1, b0, b1⟩ := HALL.out k hlt
      clear hR hB
      by_cases hm : B k < leastTo B k
      · have e : leastTo B (k + 1) = B k := if_pos hm
        have E : Hid (leastTo B (k + 1) = B k) := e
        clear e
        go_wp2
        exact ⟨⟨k + 1, by omega, by go_num, by rw [E.out], hS.alloc _⟩, by simp [intOf]; omega⟩
      · have e : leastTo B (k + 1) = leastTo B k := if_neg hm
        have E : Hid (leastTo B (k + 1) = leastTo B k) := e
        clear e
        go_wp2
        exact ⟨⟨k + 1, by omega, by go_num, by rw [E.out], hS.alloc _⟩, by simp [intOf]; omega⟩
    · have hkn : k = n := by omega
      subst hkn
      clear hR hB
      by_cases h1 : wi < 0
      · go_wp2
        go_ret2
        exact ⟨rfl, hS⟩
      · have h2 := HW.out (by omega)
        go_wp2
        go_ret2
        exact ⟨rfl, hS⟩

end Go.Proofs.Ytilffakkmjdmnaa
