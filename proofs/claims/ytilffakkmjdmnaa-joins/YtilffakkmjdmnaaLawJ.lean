/-
  works where it campaigns; step.
-/
import Derived.Test.YtilffakkmjdmnaaLawIa
import Derived.Test.YtilffakkmjdmnaaLawIb
import Derived.Test.YtilffakkmjdmnaaLawIe
import Derived.Test.YtilffakkmjdmnaaLawIf
import Derived.Test.YtilffakkmjdmnaaLawIg
import Derived.Test.YtilffakkmjdmnaaLawIh
import Derived.Test.YtilffakkmjdmnaaLawG
set_option linter.unusedVariables false
set_option linter.unusedSimpArgs false
namespace Go.Proofs.Ytilffakkmjdmnaa
open Go.RowKit
attribute [local go_sem ↓] Go.wp_at_zero Go.wp_at_succ

theorem moves_all (m B0 p b : Nat) (A : RA) (s : PC) (r : RS) (k x y z : Int) (hk : 1 ≤ k) (hk2 : k ≤ 4) (w : World) (hL : Live m B0 w p b A s r) :
    Calls Try.prog 35 #[.pointer (some ⟨p, 0, none⟩), .agg #[.int .i64 k, .int .i64 x, .int .i64 y, .int .i64 z]] w fun e w' => e = .returned (.bool true) ∧ (∃ A' s' r', Live (m + 1) B0 w' p b A' s' r') ∧ Below B0 w w' := by
  rcases (by omega : k = 1 ∨ k = 2 ∨ k = 3 ∨ k = 4) with rfl | rfl | rfl | rfl
  · exact moves_pass m B0 p b A s r x y z w hL
  · exact moves_link m B0 p b A s r x y z w hL
  · exact moves_crash m B0 p b A s r x y z w hL
  · exact moves_start m B0 p b A s r x y z w hL

set_option maxRecDepth 100000 in
set_option maxHeartbeats 1000000 in
theorem step_any (m B0 p b : Nat) (A : RA) (s : PC) (r : RS) (k x y z : Int) (hm : (m + 1) * 24 ≤ 140737488355328) (h13 : k ≠ 13) (w : World) (hL : Live m B0 w p b A s r) :
    Calls Try.prog 15 #[.pointer (some ⟨p, 0, none⟩), .agg #[.int .i64 k, .int .i64 x, .int .i64 y, .int .i64 z]] w fun e w' => e = .returned (.bool true) ∧ (∃ A' s' r', Live (m + 1) B0 w' p b A' s' r') ∧ Below B0 w w' := by
  by_cases ht : 9 ≤ k ∧ k ≤ 12
  · refine (step_tells p b A s r k x y z ht.1 ht.2 w hL.pair hL.sim).mono ?_
    rintro e w' ⟨rfl, hS⟩
    exact ⟨rfl, ⟨A, s, r, (hL.same hS).later⟩, hS.below hL.base (fun _ _ h => h)⟩
  have hL1 : ∀ o, Live m B0 (w.alloc o) p b A s r := fun o => hL.same ((Kept.refl _ _).alloc o)
  have hbel : ∀ o, Below B0 w (w.alloc o) := fun o => (Below.refl _ _).alloc hL.base _
  have HL : Hid (∀ o, Live m B0 (w.alloc o) p b A s r) := hL1
  have HB : Hid (∀ o, Below B0 w (w.alloc o)) := hbel
  clear hL1 hbel
  by_cases hmm : 1 ≤ k ∧ k ≤ 4
  · obtain ⟨m1, m2⟩ := hmm
    clear hm
    rcases (by omega : k = 1 ∨ k = 2 ∨ k = 3 ∨ k = 4) with rfl | rfl | rfl | rfl
    all_goals
      go_enter Try.func15, Try.ntmps15
      go_wp2_with (go_at_call 35; refine (moves_all m B0 p b A s r _ x y z (by omega) (by omega) _ (HL.out _)).mono ?_; rintro e w3 ⟨rfl, hL3, hb3⟩)
      go_ret
      exact ⟨rfl, hL3, (HB.out _).trans hb3⟩
  by_cases hk5 : k = 5
  · subst hk5
    clear hm
    go_enter Try.func15, Try.ntmps15
    go_wp2_with (go_at_call 36; refine (works_campaign m B0 p b A s r x y z _ (HL.out _)).mono ?_; rintro e w3 ⟨rfl, hL3, hb3⟩)
    go_ret
    exact ⟨rfl, hL3, (HB.out _).trans hb3⟩
  by_cases hk6 : k = 6
  · subst hk6
    have HM : Hid ((m + 1) * 24 ≤ 140737488355328) := hm
    clear hm
    go_enter Try.func15, Try.ntmps15
    go_wp2_with (go_at_call 36; refine (works_ask m B0 p b A s r x y z HM.out _ (HL.out _)).mono ?_; rintro e w3 ⟨rfl, hL3, hb3⟩)
    go_ret
    exact ⟨rfl, hL3, (HB.out _).trans hb3⟩
  by_cases hk7 : k = 7
  · subst hk7
    have HM : Hid ((m + 1) * 24 ≤ 140737488355328) := hm
    clear hm
    go_enter Try.func15, Try.ntmps15
    go_wp2_with (go_at_call 36; refine (works_join m B0 p b A s r x y z HM.out _ (HL.out _)).mono ?_; rintro e w3 ⟨rfl, hL3, hb3⟩)
    go_ret
    exact ⟨rfl, hL3, (HB.out _).trans hb3⟩
  clear hm
  by_cases hk8 : k = 8
  · subst hk8
    go_enter Try.func15, Try.ntmps15
    go_wp2_with (go_at_call 36; refine (works_wait m B0 p b A s r x y z _ (HL.out _)).mono ?_; rintro e w3 ⟨rfl, hL3, hb3⟩)
    go_ret
    exact ⟨rfl, hL3, (HB.out _).trans hb3⟩
  have e1 : (k == 1) = false := by simp; omega
  have e2 : (k == 2) = false := by simp; omega
  have e3 : (k == 3) = false := by simp; omega
  have e4 : (k == 4) = false := by simp; omega
  have e5 : (k == 5) = false := by simp; omega
  have e6 : (k == 6) = false := by simp [hk6]
  have e7 : (k == 7) = false := by simp [hk7]
  have e8 : (k == 8) = false := by simp [hk8]
  have e9 : (k == 9) = false := by simp; omega
  have e10 : (k == 10) = false := by simp; omega
  have e11 : (k == 11) = false := by simp; omega
  have e12 : (k == 12) = false := by simp; omega
  have e13 : (k == 13) = false := by simp [h13]
  clear ht hmm hk5 hk6 hk7 hk8 h13
  go_enter Try.func15, Try.ntmps15
  go_wp2
  go_ret
  exact ⟨rfl, ⟨A, s, r, (HL.out _).later⟩, HB.out _⟩

def amongB (l : List Int) (k : Int) : Bool := l.any (· == k)

def questB (k : Int) : Bool := decide (8 ≤ k) && decide (k ≤ 12)

set_option maxHeartbeats 400000 in
theorem question_any (k : Int) (w : World) :
    Calls Try.prog 40 #[.int .i64 k] w fun e w' => e = .returned (.bool (questB k)) ∧ w' = w := by
  by_cases h : 8 ≤ k
  · go_enter Try.func40, Try.ntmps40
    go_wp2
    go_ret
    exact ⟨by simp [questB, h], rfl⟩
  · go_enter Try.func40, Try.ntmps40
    go_wp2
    go_ret
    exact ⟨by simp [questB]; omega, rfl⟩

/-- A row of kinds. -/
def KAt (w : World) (a : Option Addr) (n : Nat) (l : List Int) : Prop := n = l.length ∧ n ≤ 5 ∧ (n = 0 ∨ ∃ g, a = some ⟨g, 0, none⟩ ∧ g < w.heap.size ∧ ∀ j (h : j < l.length), w.cell? ⟨g, j, none⟩ = some (.int .i64 l[j]))

set_option maxRecDepth 100000 in
set_option maxHeartbeats 1000000 in
theorem among_any (a : Option Addr) (n cap : Nat) (l : List Int) (k : Int) (w : World) (h : KAt w a n l) :
    Calls Try.prog 39 #[.slice a n cap, .int .i64 k] w fun e w' => e = .returned (.bool (amongB l k)) ∧ w' = w := by
  obtain ⟨hn, h5, hor⟩ := h
  have hc : ∀ j (h : j < l.length), ∃ g, a = some ⟨g, 0, none⟩ ∧ w.cell? ⟨g, j, none⟩ = some (.int .i64 l[j]) := by
    intro j hj
    rcases hor with h0 | ⟨g, hg, _, hc⟩
    · omega
    · exact ⟨g, hg, hc j hj⟩
  have HC : Hid (∀ j (h : j < l.length), ∃ g, a = some ⟨g, 0, none⟩ ∧ w.cell? ⟨g, j, none⟩ = some (.int .i64 l[j])) := hc
  have HN : Hid (n = l.length) := hn
  have n5 : (n : Int) ≤ 5 := by omega
  clear hc hn hor
  go_enter Try.func39, Try.ntmps39
  go_wp2
  go_loop [5] (fun x => ∃ j : Nat, j ≤ n ∧ x = .int .i64 j ∧ ∀ q (h : q < l.length), q < j → l[q] ≠ k) (fun x => n - (intOf x).toNat)
  case atStart => exact ⟨0, by omega, rfl, fun q _ h => absurd h (Nat.not_lt_zero _)⟩
  case round =>
    obtain ⟨j, hj, rfl, hno⟩ := hrel
    have HNO : Hid (∀ q (h : q < l.length), q < j → l[q] ≠ k) := hno
    clear hno
    by_cases hlt : j < n
    · have hjl : j < l.length := by have := HN.out; omega
      obtain ⟨g, rfl, c0⟩ := HC.out j hjl
      have hji : (j : Int) < n := by omega
      by_cases he : l[j] = k
      · have e1 : (l[j] == k) = true := by simp [he]
        have fin : amongB l k = true := List.any_eq_true.2 ⟨l[j], List.getElem_mem hjl, e1⟩
        have FIN : Hid (amongB l k = true) := fin
        rw [he] at c0
        clear fin he e1
        go_wp2
        go_ret
        exact ⟨by rw [FIN.out]; rfl, rfl⟩
      · have e1 : (l[j] == k) = false := by simp [he]
        have HE : Hid (¬ l[j] = k) := he
        clear he
        go_wp2
        refine ⟨⟨j + 1, by omega, by go_num, fun q hq hqj => ?_⟩, by simp [intOf]; omega⟩
        rcases Nat.lt_succ_iff_lt_or_eq.1 hqj with h | h
        · exact HNO.out q hq h
        · subst h; exact HE.out
    · have fin : amongB l k = false := by
        unfold amongB
        rw [List.any_eq_false]
        intro x hx
        obtain ⟨q, hq, rfl⟩ := List.getElem_of_mem hx
        have := HNO.out q hq (by have := HN.out; omega)
        simpa using this
      have FIN : Hid (amongB l k = false) := fin
      clear fin
      go_wp2
      go_ret
      exact ⟨by rw [FIN.out]; rfl, rfl⟩

end Go.Proofs.Ytilffakkmjdmnaa
