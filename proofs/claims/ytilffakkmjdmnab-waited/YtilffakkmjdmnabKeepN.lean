/-
  What holds of every cluster behind any script: plain reckoning.
-/
import Derived.Test.YtilffakkmjdmnabKeepM
set_option linter.unusedVariables false
set_option linter.unusedSimpArgs false
namespace Go.Proofs.Ytilffakkmjdmnab
open Go.RowKit

/-- No level is above its room; the holder is a node or none. -/
structure Sane (s : PC) : Prop where
  ok : s.Ok
  gate : Gate' s
  who : Who s
  room : ∀ i k : Nat, i < 2 → (k : Int) < s.count → s.lev i k ≤ s.burst k - s.window

theorem room_of {s s' : PC} (h : ∀ i k : Nat, i < 2 → (k : Int) < s.count → s.lev i k ≤ s.burst k - s.window) (h1 : s'.count = s.count) (h2 : s'.burst = s.burst) (h3 : s'.window = s.window) (h4 : ∀ i k : Nat, i < 2 → (k : Int) < s.count → ∃ j, j < 2 ∧ s'.lev i k ≤ s.lev j k) : ∀ i k : Nat, i < 2 → (k : Int) < s'.count → s'.lev i k ≤ s'.burst k - s'.window := by
  intro i k hi hk
  rw [h1] at hk
  rw [h2, h3]
  obtain ⟨j, hj, hle⟩ := h4 i k hi hk
  exact Int.le_trans hle (h j k hj hk)
theorem charged_le (s : PC) (ok : s.Ok) (i k : Nat) (amt : Int) (a0 : 0 ≤ amt) (j q : Nat) : (s.charged i k amt).lev j q ≤ s.lev j q := by
  show upd s.lev i (upd (s.lev i) k (chargedLev (s.lev i k) amt)) j q ≤ s.lev j q
  by_cases e : j = i ∧ q = k
  · obtain ⟨rfl, rfl⟩ := e
    have : upd s.lev j (upd (s.lev j) q (chargedLev (s.lev j q) amt)) j q = chargedLev (s.lev j q) amt := by
      unfold upd
      simp
    rw [this]
    exact (chargedLev_bd (ok.lev0 j q) a0).2
  · unfold upd
    split
    · rename_i e1
      dsimp only
      split
      · rename_i e2; exact absurd ⟨e1, e2⟩ e
      · rw [e1]; exact Int.le_refl _
    · exact Int.le_refl _
theorem secured_le (s : PC) (ok : s.Ok) (i k : Nat) (amt : Int) (a0 : 0 ≤ amt) (j q : Nat) : (s.secured i k amt).2.lev j q ≤ s.lev j q := by
  unfold PC.secured
  split
  · exact Int.le_refl _
  · split
    · exact charged_le s ok _ _ _ a0 j q
    · split
      · rw [(second_keeps (s.charged (1 - i) k amt) i).1]
        exact charged_le s ok _ _ _ a0 j q
      · rw [(second_keeps s i).1]
        exact Int.le_refl _
theorem second_fix (s : PC) (i : Nat) : (s.second i).2.burst = s.burst ∧ (s.second i).2.holder = s.holder := by
  unfold PC.second
  dsimp only
  split
  · exact ⟨rfl, rfl⟩
  · split <;> exact ⟨rfl, rfl⟩
theorem secured_fix (s : PC) (i k : Nat) (amt : Int) : (s.secured i k amt).2.burst = s.burst ∧ (s.secured i k amt).2.holder = s.holder := by
  unfold PC.secured
  split
  · exact ⟨rfl, rfl⟩
  · split
    · exact ⟨rfl, rfl⟩
    · split
      · exact second_fix (s.charged (1 - i) k amt) i
      · exact second_fix s i
theorem asked_fix (s : PC) (ok : s.Ok) (i k : Nat) (cost : Int) (c1 : cost ≤ 2000000) : (s.asked i k cost).2.burst = s.burst ∧ (s.asked i k cost).2.holder = s.holder ∧ (s.asked i k cost).2.count = s.count ∧ (s.asked i k cost).2.window = s.window ∧ ∀ j q, (s.asked i k cost).2.lev j q ≤ s.lev j q := by
  unfold PC.asked
  split
  · split
    · exact ⟨rfl, rfl, rfl, rfl, fun _ _ => Int.le_refl _⟩
    · rename_i hc
      split
      · exact ⟨rfl, rfl, rfl, rfl, fun _ _ => Int.le_refl _⟩
      · have hb := reserve_bd (lev := s.lev i k) (ok.wn0 i k) hc c1 ok.win0 ok.win1
        generalize reserveOf (s.lev i k) (s.win i k) s.window cost = amt at *
        have f := secured_fix s i k amt
        have kp := secured_keeps s i k amt
        have o2 := secured_ok ok i k amt hb.1
        split
        · exact ⟨f.1, f.2, kp.2.2, kp.2.1, fun j q => Int.le_trans (charged_le _ o2 i k amt hb.1 j q) (secured_le s ok i k amt hb.1 j q)⟩
        · exact ⟨f.1, f.2, kp.2.2, kp.2.1, fun j q => secured_le s ok i k amt hb.1 j q⟩
  · exact ⟨rfl, rfl, rfl, rfl, fun _ _ => Int.le_refl _⟩
theorem campaigned_fix (s : PC) (i : Nat) (hi : i < 2) : (s.campaigned (i : Int)).2.burst = s.burst ∧ (s.campaigned (i : Int)).2.count = s.count ∧ (s.campaigned (i : Int)).2.window = s.window ∧ (s.campaigned (i : Int)).2.lev = s.lev ∧ (Who s → Who (s.campaigned (i : Int)).2) := by
  have hg : (s.granted (i : Int)).burst = s.burst ∧ (s.granted (i : Int)).count = s.count ∧ (s.granted (i : Int)).window = s.window ∧ (s.granted (i : Int)).lev = s.lev ∧ (s.granted (i : Int)).holder = (i : Int) := by
    unfold PC.granted
    split
    · rename_i h; exact ⟨rfl, rfl, rfl, rfl, h⟩
    · exact ⟨rfl, rfl, rfl, rfl, rfl⟩
  have hwho : ∀ t : PC, t.holder = (i : Int) → Who t := by
    intro t ht
    unfold Who
    rw [ht]
    omega
  unfold PC.campaigned
  split
  · split
    · split
      · exact ⟨hg.1, hg.2.1, hg.2.2.1, hg.2.2.2.1, fun _ => hwho _ hg.2.2.2.2⟩
      · exact ⟨hg.1, hg.2.1, hg.2.2.1, hg.2.2.2.1, fun _ => hwho _ hg.2.2.2.2⟩
    · exact ⟨rfl, rfl, rfl, rfl, fun h => h⟩
  · exact ⟨rfl, rfl, rfl, rfl, fun h => h⟩
theorem joined_fix (s : PC) (i : Nat) (hi : i < 2) : (s.joined i).2.burst = s.burst ∧ (s.joined i).2.count = s.count ∧ (s.joined i).2.window = s.window ∧ (s.joined i).2.holder = s.holder ∧ ∀ j q, j < 2 → ∃ j', j' < 2 ∧ (s.joined i).2.lev j q ≤ s.lev j' q := by
  have hc : ∀ j q, j < 2 → ∃ j', j' < 2 ∧ ((s.unaloned i).copied i).lev j q ≤ s.lev j' q := by
    intro j q hj
    by_cases e : j = 1 - i
    · refine ⟨i, hi, ?_⟩
      show upd s.lev (1 - i) (s.lev i) j q ≤ _
      rw [e, upd_same]
      exact Int.le_refl _
    · refine ⟨j, hj, ?_⟩
      show upd s.lev (1 - i) (s.lev i) j q ≤ _
      rw [upd_other _ _ e]
      exact Int.le_refl _
  have hid : ∀ j q, j < 2 → ∃ j', j' < 2 ∧ s.lev j q ≤ s.lev j' q := fun j q hj => ⟨j, hj, Int.le_refl _⟩
  unfold PC.joined PC.joinEnd
  split
  · split
    · dsimp only
      split
      · exact ⟨rfl, rfl, rfl, rfl, hc⟩
      · exact ⟨rfl, rfl, rfl, rfl, hc⟩
    · dsimp only
      split
      · exact ⟨rfl, rfl, rfl, rfl, hc⟩
      · exact ⟨rfl, rfl, rfl, rfl, hid⟩
  · exact ⟨rfl, rfl, rfl, rfl, hid⟩

theorem sane_fresh {le wi : Int} {n : Nat} {R B : Nat → Int} (g : Good le wi n R B) : Sane (PC.fresh le wi n R B n 2 (-1)) := by
  refine ⟨fresh_ok g.l0 g.l1 g.ten g.win 2 (-1), ⟨gate_fresh le wi n R B g.l0, Int.le_refl _⟩, .inl rfl, fun i k hi hk => ?_⟩
  have hk' : k < n := by
    have : (k : Int) < (n : Int) := hk
    omega
  show (if i < 2 then (if k < n then B k - wi else 0) else 0 : Int) ≤ (if k < n then B k else 0) - wi
  rw [if_pos hi, if_pos hk', if_pos hk']
  exact Int.le_refl _
theorem same_le {s : PC} (i k : Nat) (hi : i < 2) : ∃ j, j < 2 ∧ s.lev i k ≤ s.lev j k := ⟨i, hi, Int.le_refl _⟩
theorem sane_passed {s : PC} (h : Sane s) (t : Int) (t0 : 0 ≤ t) (t1 : t ≤ 1000000000000 - s.now) : Sane (s.passed t) := by
  refine ⟨passed_ok h.ok t t0 t1, ⟨gate_passed h.gate.g t t0, h.gate.w0⟩, h.who, fun i k hi hk => ?_⟩
  have hk' : (k : Int) < s.count := hk
  rw [passed_lev t i k hi hk']
  show s.grown k (s.lev i k) t ≤ s.burst k - s.window
  unfold PC.grown
  split <;> omega
/-- Every step keeps it. -/
theorem sane_call {s : PC} (h : Sane s) (k x y z : Int) : Sane (s.call k x y z).2 := by
  have gk := gate_call h.ok h.gate k x y z
  by_cases hk : k < 1 ∨ 12 < k
  · have e : s.call k x y z = (⟨0, 0, 0, 0, 0⟩, s) := by
      unfold PC.call
      rw [if_neg (by omega), if_neg (by omega), if_neg (by omega), if_neg (by omega), if_neg (by omega), if_neg (by omega), if_neg (by omega), if_neg (by omega), if_neg (by omega), if_neg (by omega), if_neg (by omega), if_neg (by omega)]
    rw [e]
    exact h
  · rcases (by omega : k = 1 ∨ k = 2 ∨ k = 3 ∨ k = 4 ∨ k = 5 ∨ k = 6 ∨ k = 7 ∨ k = 8 ∨ k = 9 ∨ k = 10 ∨ k = 11 ∨ k = 12) with rfl | rfl | rfl | rfl | rfl | rfl | rfl | rfl | rfl | rfl | rfl | rfl
    · show Sane (s.passR x).2
      unfold PC.passR
      split
      · exact h
      · exact sane_passed h x (by omega) (by omega)
    · refine ⟨gk.2, gk.1, ?_, ?_⟩
      · show Who (s.linkR x y z).2
        unfold PC.linkR
        split <;> exact h.who
      · show ∀ i k : Nat, i < 2 → (k : Int) < (s.linkR x y z).2.count → (s.linkR x y z).2.lev i k ≤ (s.linkR x y z).2.burst k - (s.linkR x y z).2.window
        unfold PC.linkR
        split <;> exact h.room
    · refine ⟨gk.2, gk.1, ?_, ?_⟩
      · show Who (s.crashR x).2
        unfold PC.crashR
        split
        · split <;> exact h.who
        · exact h.who
      · show ∀ i k : Nat, i < 2 → (k : Int) < (s.crashR x).2.count → (s.crashR x).2.lev i k ≤ (s.crashR x).2.burst k - (s.crashR x).2.window
        unfold PC.crashR
        split
        · split <;> exact h.room
        · exact h.room
    · refine ⟨gk.2, gk.1, ?_, ?_⟩
      · show Who (s.startR x).2
        unfold PC.startR
        split
        · split <;> exact h.who
        · exact h.who
      · show ∀ i k : Nat, i < 2 → (k : Int) < (s.startR x).2.count → (s.startR x).2.lev i k ≤ (s.startR x).2.burst k - (s.startR x).2.window
        unfold PC.startR
        split
        · split <;> exact h.room
        · exact h.room
    · have key : Who (s.campR x).2 ∧ ∀ i k : Nat, i < 2 → (k : Int) < (s.campR x).2.count → (s.campR x).2.lev i k ≤ (s.campR x).2.burst k - (s.campR x).2.window := by
        unfold PC.campR
        split
        · rename_i hn
          obtain ⟨j, hj, rfl⟩ := nat_of_node hn
          split
          · have f := campaigned_fix s j hj
            exact ⟨f.2.2.2.2 h.who, room_of h.room f.2.1 f.1 f.2.2.1 (fun i k hi _ => by rw [f.2.2.2.1]; exact same_le i k hi)⟩
          · exact ⟨h.who, h.room⟩
        · exact ⟨h.who, h.room⟩
      exact ⟨gk.2, gk.1, key.1, key.2⟩
    · have key : Who (s.askR x y z).2 ∧ ∀ i k : Nat, i < 2 → (k : Int) < (s.askR x y z).2.count → (s.askR x y z).2.lev i k ≤ (s.askR x y z).2.burst k - (s.askR x y z).2.window := by
        unfold PC.askR
        split
        · rename_i hw
          obtain ⟨_, _, _, _, c1⟩ := pwrong_bd hw
          split
          · have f := asked_fix s h.ok x.toNat y.toNat z c1
            refine ⟨?_, room_of h.room f.2.2.1 f.1 f.2.2.2.1 (fun i k hi _ => ⟨i, hi, f.2.2.2.2 i k⟩)⟩
            show (s.asked x.toNat y.toNat z).2.holder = -1 ∨ _ ∨ _
            rw [f.2.1]
            exact h.who
          · exact ⟨h.who, h.room⟩
        · exact ⟨h.who, h.room⟩
      exact ⟨gk.2, gk.1, key.1, key.2⟩
    · have key : Who (s.joinR x).2 ∧ ∀ i k : Nat, i < 2 → (k : Int) < (s.joinR x).2.count → (s.joinR x).2.lev i k ≤ (s.joinR x).2.burst k - (s.joinR x).2.window := by
        unfold PC.joinR
        split
        · rename_i hn
          obtain ⟨j, hj, rfl⟩ := nat_of_node hn
          rw [Int.toNat_natCast]
          split
          · have f := joined_fix s j hj
            refine ⟨?_, room_of h.room f.2.1 f.1 f.2.2.1 (fun i k hi _ => f.2.2.2.2 i k hi)⟩
            show (s.joined j).2.holder = -1 ∨ _ ∨ _
            rw [f.2.2.2.1]
            exact h.who
          · exact ⟨h.who, h.room⟩
        · exact ⟨h.who, h.room⟩
      exact ⟨gk.2, gk.1, key.1, key.2⟩
    · exact h
    · exact h
    · exact h
    · exact h
    · exact h

end Go.Proofs.Ytilffakkmjdmnab
