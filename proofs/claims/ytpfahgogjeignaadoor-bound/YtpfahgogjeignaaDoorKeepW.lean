/-
  What was let by: a step.
-/
import Derived.Test.YtpfahgogjeignaaDoorKeepT
set_option linter.unusedVariables false
set_option linter.unusedSimpArgs false
namespace Go.Proofs.YtpfahgogjeignaaDoor
open Go.RowKit

theorem second_rb (s : PC) (i : Nat) : (s.second i).2.rate = s.rate ∧ (s.second i).2.burst = s.burst := by
  unfold PC.second
  dsimp only
  split
  · exact ⟨rfl, rfl⟩
  · split <;> exact ⟨rfl, rfl⟩
theorem secured_rb (s : PC) (i k : Nat) (amt : Int) : (s.secured i k amt).2.rate = s.rate ∧ (s.secured i k amt).2.burst = s.burst := by
  unfold PC.secured
  split
  · exact ⟨rfl, rfl⟩
  · split
    · exact ⟨rfl, rfl⟩
    · split
      · exact second_rb (s.charged (1 - i) k amt) i
      · exact second_rb s i
theorem asked_rb (s : PC) (i k : Nat) (cost : Int) : (s.asked i k cost).2.rate = s.rate ∧ (s.asked i k cost).2.burst = s.burst ∧ (s.asked i k cost).2.count = s.count := by
  have hs := secured_rb s i k (reserveOf (s.lev i k) (s.win i k) s.window cost)
  have hc := (secured_keeps s i k (reserveOf (s.lev i k) (s.win i k) s.window cost)).2.2
  unfold PC.asked
  split
  · split
    · exact ⟨rfl, rfl, rfl⟩
    · split
      · exact ⟨rfl, rfl, rfl⟩
      · split
        · exact ⟨hs.1, hs.2, hc⟩
        · exact ⟨hs.1, hs.2, hc⟩
  · exact ⟨rfl, rfl, rfl⟩
theorem campaigned_rb (s : PC) (i : Int) : (s.campaigned i).2.rate = s.rate ∧ (s.campaigned i).2.burst = s.burst ∧ (s.campaigned i).2.count = s.count := by
  have hg : (s.granted i).rate = s.rate ∧ (s.granted i).burst = s.burst ∧ (s.granted i).count = s.count := by
    unfold PC.granted
    split <;> exact ⟨rfl, rfl, rfl⟩
  unfold PC.campaigned
  split
  · split
    · split
      · exact hg
      · exact hg
    · exact ⟨rfl, rfl, rfl⟩
  · exact ⟨rfl, rfl, rfl⟩
theorem joined_rb (s : PC) (i : Nat) : (s.joined i).2.rate = s.rate ∧ (s.joined i).2.burst = s.burst ∧ (s.joined i).2.count = s.count := by
  unfold PC.joined PC.joinEnd
  split
  · split
    · dsimp only
      split <;> exact ⟨rfl, rfl, rfl⟩
    · dsimp only
      split <;> exact ⟨rfl, rfl, rfl⟩
  · exact ⟨rfl, rfl, rfl⟩
/-- No step turns rates, bursts, or how many tenants there are. -/
theorem call_rb (s : PC) (k x y z : Int) : (s.call k x y z).2.rate = s.rate ∧ (s.call k x y z).2.burst = s.burst ∧ (s.call k x y z).2.count = s.count := by
  by_cases hk : k < 1 ∨ 12 < k
  · have e : s.call k x y z = (⟨0, 0, 0, 0, 0⟩, s) := by
      unfold PC.call
      rw [if_neg (by omega), if_neg (by omega), if_neg (by omega), if_neg (by omega), if_neg (by omega), if_neg (by omega), if_neg (by omega), if_neg (by omega), if_neg (by omega), if_neg (by omega), if_neg (by omega), if_neg (by omega)]
    rw [e]
    exact ⟨rfl, rfl, rfl⟩
  · rcases (by omega : k = 1 ∨ k = 2 ∨ k = 3 ∨ k = 4 ∨ k = 5 ∨ k = 6 ∨ k = 7 ∨ k = 8 ∨ k = 9 ∨ k = 10 ∨ k = 11 ∨ k = 12) with rfl | rfl | rfl | rfl | rfl | rfl | rfl | rfl | rfl | rfl | rfl | rfl
    · show (s.passR x).2.rate = s.rate ∧ (s.passR x).2.burst = s.burst ∧ (s.passR x).2.count = s.count
      unfold PC.passR
      split <;> exact ⟨rfl, rfl, rfl⟩
    · show (s.linkR x y z).2.rate = s.rate ∧ (s.linkR x y z).2.burst = s.burst ∧ (s.linkR x y z).2.count = s.count
      unfold PC.linkR
      split <;> exact ⟨rfl, rfl, rfl⟩
    · show (s.crashR x).2.rate = s.rate ∧ (s.crashR x).2.burst = s.burst ∧ (s.crashR x).2.count = s.count
      unfold PC.crashR
      split
      · split <;> exact ⟨rfl, rfl, rfl⟩
      · exact ⟨rfl, rfl, rfl⟩
    · show (s.startR x).2.rate = s.rate ∧ (s.startR x).2.burst = s.burst ∧ (s.startR x).2.count = s.count
      unfold PC.startR
      split
      · split <;> exact ⟨rfl, rfl, rfl⟩
      · exact ⟨rfl, rfl, rfl⟩
    · show (s.campR x).2.rate = s.rate ∧ (s.campR x).2.burst = s.burst ∧ (s.campR x).2.count = s.count
      unfold PC.campR
      split
      · split
        · exact campaigned_rb s x
        · exact ⟨rfl, rfl, rfl⟩
      · exact ⟨rfl, rfl, rfl⟩
    · show (s.askR x y z).2.rate = s.rate ∧ (s.askR x y z).2.burst = s.burst ∧ (s.askR x y z).2.count = s.count
      unfold PC.askR
      split
      · split
        · exact asked_rb s _ _ _
        · exact ⟨rfl, rfl, rfl⟩
      · exact ⟨rfl, rfl, rfl⟩
    · show (s.joinR x).2.rate = s.rate ∧ (s.joinR x).2.burst = s.burst ∧ (s.joinR x).2.count = s.count
      unfold PC.joinR
      split
      · split
        · exact joined_rb s _
        · exact ⟨rfl, rfl, rfl⟩
      · exact ⟨rfl, rfl, rfl⟩
    · exact ⟨rfl, rfl, rfl⟩
    · exact ⟨rfl, rfl, rfl⟩
    · exact ⟨rfl, rfl, rfl⟩
    · exact ⟨rfl, rfl, rfl⟩
    · exact ⟨rfl, rfl, rfl⟩
/-- A request that was let by was in its bounds. -/
theorem call_admit (s : PC) (x y z : Int) (h : (s.call 6 x y z).1.e = 0) : 0 ≤ y ∧ y < s.count ∧ 1 ≤ z ∧ z ≤ 2000000 := by
  have h' : (s.askR x y z).1.2 = 0 := h
  unfold PC.askR at h'
  by_cases hw : s.wrong x y z = 0
  · obtain ⟨_, a, b, c, d⟩ := pwrong_bd hw
    exact ⟨a, b, c, d⟩
  · rw [if_neg hw] at h'
    exact absurd h' hw

/-- What is known of a tenant: its bucket, its window, what it was let by. -/
structure Note (s : PC) (k : Nat) (R B g u : Int) (T C : Nat → Int) (n : Nat) : Prop where
  bud : Bud s k g u
  rate : s.rate k = R
  burst : s.burst k = B
  hist : Hist T C n s.now g u B R

/-- A step that lets nothing by of tenant k. -/
theorem note_keep {s : PC} {k m n : Nat} {R B g u : Int} {T C : Nat → Int} (sn : Sane s) (ep : Ep s m) (hm9 : (m : Int) < 9000000000000000000) (hk : (k : Int) < s.count) (h : Note s k R B g u T C n) (kd x y z : Int) (hno : ¬ (kd = 6 ∧ (s.call kd x y z).1.e = 0 ∧ (s.call kd x y z).1.a = 5 ∧ y = (k : Int))) :
    ∃ g' u', Note (s.call kd x y z).2 k R B g' u' T C n := by
  obtain ⟨_, g', u', b', hle⟩ := bud_call sn ep hm9 hk h.bud kd x y z
  have rb := call_rb s kd x y z
  unfold spentBy at hle
  rw [if_neg hno] at hle
  refine ⟨g', u', b', by rw [rb.1]; exact h.rate, by rw [rb.2.1]; exact h.burst, ?_⟩
  by_cases h1 : kd = 1 ∧ (s.call kd x y z).1.e = 0
  · obtain ⟨e1, e2⟩ := h1
    subst e1
    obtain ⟨x0, _, en⟩ := call_pass s x y z e2
    unfold tickBy at hle
    rw [if_pos ⟨rfl, e2⟩, h.rate] at hle
    rw [en]
    exact hist_time h.hist x g' u' x0 (by omega)
  · have en := call_now s kd x y z h1
    unfold tickBy at hle
    rw [if_neg h1, Int.mul_zero] at hle
    have := hist_time h.hist 0 g' u' (Int.le_refl _) (by rw [Int.mul_zero]; omega)
    rw [Int.add_zero] at this
    rw [en]
    exact this
/-- A step that lets by a request of tenant k. -/
theorem note_push {s : PC} {k m n : Nat} {R B g u : Int} {T C : Nat → Int} (sn : Sane s) (ep : Ep s m) (hm9 : (m : Int) < 9000000000000000000) (hk : (k : Int) < s.count) (h : Note s k R B g u T C n) (x y z : Int) (he : (s.call 6 x y z).1.e = 0) (ha : (s.call 6 x y z).1.a = 5) (hy : y = (k : Int)) :
    ∃ g' u', Note (s.call 6 x y z).2 k R B g' u' (upd T n s.now) (upd C n z) (n + 1) ∧ 0 ≤ g' ∧ 0 ≤ u' := by
  obtain ⟨_, g', u', b', hle⟩ := bud_call sn ep hm9 hk h.bud 6 x y z
  have rb := call_rb s 6 x y z
  obtain ⟨_, _, z0, z1⟩ := call_admit s x y z he
  unfold spentBy tickBy at hle
  rw [if_pos ⟨rfl, he, ha, hy⟩, if_neg (fun e => absurd e.1 (by decide)), Int.mul_zero] at hle
  have en := call_now s 6 x y z (fun e => absurd e.1 (by decide))
  have bb := bud_bound h.bud
  rw [h.burst] at bb
  refine ⟨g', u', ⟨b', by rw [rb.1]; exact h.rate, by rw [rb.2.1]; exact h.burst, ?_⟩, b'.g0, b'.u0⟩
  rw [en]
  exact hist_push h.hist z g' u' sn.ok.now0 z0 z1 bb (by omega)
theorem ep_call {s : PC} {m : Nat} (sn : Sane s) (ep : Ep s m) (hm9 : (m : Int) < 9000000000000000000) (c0 : (0 : Int) < s.count) (hb : ∃ g u, Bud s 0 g u) (kd x y z : Int) : Ep (s.call kd x y z).2 (m + 1) := by
  obtain ⟨g, u, b⟩ := hb
  exact (bud_call sn ep hm9 c0 b kd x y z).1
theorem note_fresh {le wi : Int} {n : Nat} {R B : Nat → Int} (g : Good le wi n R B) (k : Nat) (hk : k < n) (T C : Nat → Int) : Note (PC.fresh le wi n R B n 2 (-1)) k (R k) (B k) (B k - wi) wi T C 0 :=
  ⟨bud_fresh g k hk, if_pos hk, if_pos hk, hist_nil _ _ _ _ _ _ _⟩

end Go.Proofs.YtpfahgogjeignaaDoor
