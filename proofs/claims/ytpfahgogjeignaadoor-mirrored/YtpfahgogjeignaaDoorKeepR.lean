/-
  What one node spends the other knows: plain reckoning.
-/
import Derived.Test.YtpfahgogjeignaaDoorPlainB
set_option linter.unusedVariables false
set_option linter.unusedSimpArgs false
namespace Go.Proofs.YtpfahgogjeignaaDoor
open Go.RowKit

/-- All is up, all links work, nobody acts alone, both have the same levels. -/
structure Mir (s : PC) : Prop where
  sane : Sane s
  up : ∀ j, j < 2 → s.up j = true
  link : ∀ j, j < 3 → s.link j = 0
  alone : ∀ j, j < 2 → s.alone j = false
  solo : s.solo = false
  lev : ∀ k : Nat, (k : Int) < s.count → s.lev 0 k = s.lev 1 k

theorem mir_fresh {le wi : Int} {n : Nat} {R B : Nat → Int} (g : Good le wi n R B) : Mir (PC.fresh le wi n R B n 2 (-1)) :=
  ⟨sane_fresh g, fun j hj => by show decide (j < 2) = true; simpa using hj, fun _ _ => rfl, fun _ _ => rfl, rfl, fun _ _ => rfl⟩
theorem mir_passed {s : PC} (h : Mir s) (t : Int) (t0 : 0 ≤ t) (t1 : t ≤ 1000000000000 - s.now) : Mir (s.passed t) := by
  refine ⟨sane_passed h.sane t t0 t1, h.up, h.link, h.alone, h.solo, fun k hk => ?_⟩
  have hk' : (k : Int) < s.count := hk
  rw [passed_lev t 0 k (by omega) hk', passed_lev t 1 k (by omega) hk', h.lev k hk']
theorem mir_campaigned {s : PC} (h : Mir s) (i : Nat) (hi : i < 2) (hs : Sane (s.campaigned (i : Int)).2) : Mir (s.campaigned (i : Int)).2 := by
  have f := campaigned_fix s i hi
  have hg : (s.granted (i : Int)).up = s.up ∧ (s.granted (i : Int)).link = s.link ∧ (s.granted (i : Int)).alone = s.alone ∧ (s.granted (i : Int)).solo = false := by
    unfold PC.granted
    split
    · exact ⟨rfl, rfl, rfl, h.solo⟩
    · exact ⟨rfl, rfl, rfl, rfl⟩
  have key : (∀ j, j < 2 → (s.campaigned (i : Int)).2.up j = true) ∧ (∀ j, j < 3 → (s.campaigned (i : Int)).2.link j = 0) ∧ (∀ j, j < 2 → (s.campaigned (i : Int)).2.alone j = false) ∧ (s.campaigned (i : Int)).2.solo = false := by
    unfold PC.campaigned
    split
    · split
      · split
        · refine ⟨?_, ?_, ?_, hg.2.2.2⟩
          · show ∀ j, j < 2 → (s.granted (i : Int)).up j = true
            rw [hg.1]; exact h.up
          · show ∀ j, j < 3 → (s.granted (i : Int)).link j = 0
            rw [hg.2.1]; exact h.link
          · intro j hj
            show upd (s.granted (i : Int)).alone (i : Int).toNat (s.granted (i : Int)).solo j = false
            unfold upd
            split
            · exact hg.2.2.2
            · rw [hg.2.2.1]; exact h.alone j hj
        · refine ⟨?_, ?_, ?_, hg.2.2.2⟩
          · rw [hg.1]; exact h.up
          · rw [hg.2.1]; exact h.link
          · rw [hg.2.2.1]; exact h.alone
      · exact ⟨h.up, h.link, h.alone, h.solo⟩
    · exact ⟨h.up, h.link, h.alone, h.solo⟩
  refine ⟨hs, key.1, key.2.1, key.2.2.1, key.2.2.2, fun k hk => ?_⟩
  rw [f.2.1] at hk
  rw [f.2.2.2.1]
  exact h.lev k hk
theorem mir_asked {s : PC} (h : Mir s) (i k : Nat) (hi : i < 2) (cost : Int) (hk : (k : Int) < s.count) (hs : Sane (s.asked i k cost).2) : Mir (s.asked i k cost).2 := by
  obtain ⟨_, _, _, a4⟩ := held_arrives h.up h.link hi
  have es : ∀ amt, s.secured i k amt = (true, s.charged (1 - i) k amt) := by
    intro amt
    unfold PC.secured
    rw [if_neg (by rw [h.alone i hi]; simp), if_pos a4]
  have key : (s.asked i k cost).2.up = s.up ∧ (s.asked i k cost).2.link = s.link ∧ (s.asked i k cost).2.alone = s.alone ∧ (s.asked i k cost).2.solo = s.solo ∧ (s.asked i k cost).2.count = s.count ∧ ∀ q : Nat, (q : Int) < s.count → (s.asked i k cost).2.lev 0 q = (s.asked i k cost).2.lev 1 q := by
    unfold PC.asked
    split
    · split
      · exact ⟨rfl, rfl, rfl, rfl, rfl, h.lev⟩
      · split
        · exact ⟨rfl, rfl, rfl, rfl, rfl, h.lev⟩
        · rw [es, if_pos rfl]
          generalize reserveOf (s.lev i k) (s.win i k) s.window cost = amt
          refine ⟨rfl, rfl, rfl, rfl, rfl, fun q hq => ?_⟩
          have hq' := h.lev q hq
          have hk' := h.lev k hk
          show ((s.charged (1 - i) k amt).charged i k amt).lev 0 q = ((s.charged (1 - i) k amt).charged i k amt).lev 1 q
          by_cases e : q = k
          · subst e
            rcases (by omega : i = 0 ∨ i = 1) with rfl | rfl
            · rw [charged_at, charged_other _ 0 q amt 1 q (by omega), charged_other s (1 - 0) q amt 0 q (by omega), charged_at, hk']
            · rw [charged_at, charged_other _ 1 q amt 0 q (by omega), charged_other s (1 - 1) q amt 1 q (by omega), charged_at, hk']
          · rw [charged_other _ i k amt 0 q (by omega), charged_other _ i k amt 1 q (by omega), charged_other s (1 - i) k amt 0 q (by omega), charged_other s (1 - i) k amt 1 q (by omega)]
            exact hq'
    · exact ⟨rfl, rfl, rfl, rfl, rfl, h.lev⟩
  obtain ⟨k1, k2, k3, k4, k5, k6⟩ := key
  exact ⟨hs, by rw [k1]; exact h.up, by rw [k2]; exact h.link, by rw [k3]; exact h.alone, by rw [k4]; exact h.solo, by rw [k5]; exact k6⟩
theorem mir_joined {s : PC} (h : Mir s) (i : Nat) (hi : i < 2) (hs : Sane (s.joined i).2) : Mir (s.joined i).2 := by
  have hc : ∀ q : Nat, (q : Int) < s.count → ((s.unaloned i).copied i).lev 0 q = ((s.unaloned i).copied i).lev 1 q := by
    intro q hq
    have := h.lev q hq
    rcases (by omega : i = 0 ∨ i = 1) with rfl | rfl
    · show upd s.lev 1 (s.lev 0) 0 q = upd s.lev 1 (s.lev 0) 1 q
      simp [upd]
    · show upd s.lev 0 (s.lev 1) 0 q = upd s.lev 0 (s.lev 1) 1 q
      simp [upd]
  have ha : ∀ j, j < 2 → upd s.alone i false j = false := by
    intro j hj
    unfold upd
    split
    · rfl
    · exact h.alone j hj
  have key : (s.joined i).2.up = s.up ∧ (s.joined i).2.link = s.link ∧ (∀ j, j < 2 → (s.joined i).2.alone j = false) ∧ (s.joined i).2.solo = false ∧ (s.joined i).2.count = s.count ∧ ∀ q : Nat, (q : Int) < s.count → (s.joined i).2.lev 0 q = (s.joined i).2.lev 1 q := by
    unfold PC.joined PC.joinEnd
    split
    · split
      · dsimp only
        split
        · exact ⟨rfl, rfl, ha, rfl, rfl, hc⟩
        · exact ⟨rfl, rfl, ha, h.solo, rfl, hc⟩
      · dsimp only
        split
        · exact ⟨rfl, rfl, ha, h.solo, rfl, hc⟩
        · exact ⟨rfl, rfl, ha, h.solo, rfl, h.lev⟩
    · exact ⟨rfl, rfl, h.alone, h.solo, rfl, h.lev⟩
  obtain ⟨k1, k2, k3, k4, k5, k6⟩ := key
  exact ⟨hs, by rw [k1]; exact h.up, by rw [k2]; exact h.link, k3, k4, by rw [k5]; exact k6⟩
/-- Every step keeps it that breaks nothing. -/
theorem mir_call {s : PC} (h : Mir s) (k x y z : Int) (h2 : k ≠ 2) (h3 : k ≠ 3) (h4 : k ≠ 4) : Mir (s.call k x y z).2 := by
  have sn := sane_call h.sane k x y z
  by_cases hk : k < 1 ∨ 12 < k
  · have e : s.call k x y z = (⟨0, 0, 0, 0, 0⟩, s) := by
      unfold PC.call
      rw [if_neg (by omega), if_neg (by omega), if_neg (by omega), if_neg (by omega), if_neg (by omega), if_neg (by omega), if_neg (by omega), if_neg (by omega), if_neg (by omega), if_neg (by omega), if_neg (by omega), if_neg (by omega)]
    rw [e]
    exact h
  · rcases (by omega : k = 1 ∨ k = 5 ∨ k = 6 ∨ k = 7 ∨ k = 8 ∨ k = 9 ∨ k = 10 ∨ k = 11 ∨ k = 12) with rfl | rfl | rfl | rfl | rfl | rfl | rfl | rfl | rfl
    · show Mir (s.passR x).2
      unfold PC.passR
      split
      · exact h
      · exact mir_passed h x (by omega) (by omega)
    · have sn' : Sane (s.campR x).2 := sn
      show Mir (s.campR x).2
      unfold PC.campR at sn' ⊢
      cases hn : isNodeB x
      · exact h
      · obtain ⟨j, hj, rfl⟩ := nat_of_node hn
        rw [hn, if_pos rfl] at sn'
        cases hu : s.up (j : Int).toNat
        · simp only [if_true]
          exact h
        · rw [hu, if_pos rfl] at sn'
          simp only [if_true]
          exact mir_campaigned h j hj sn'
    · have sn' : Sane (s.askR x y z).2 := sn
      show Mir (s.askR x y z).2
      unfold PC.askR at sn' ⊢
      by_cases hw : s.wrong x y z = 0
      · rw [if_pos hw] at sn' ⊢
        obtain ⟨hn, y0, yc, c0, c1⟩ := pwrong_bd hw
        obtain ⟨j, hj, rfl⟩ := nat_of_node hn
        rw [Int.toNat_natCast] at sn' ⊢
        cases hu : s.up j
        · exact h
        · rw [hu, if_pos rfl] at sn'
          exact mir_asked h j y.toNat hj z (by omega) sn'
      · rw [if_neg hw]
        exact h
    · have sn' : Sane (s.joinR x).2 := sn
      show Mir (s.joinR x).2
      unfold PC.joinR at sn' ⊢
      cases hn : isNodeB x
      · exact h
      · obtain ⟨j, hj, rfl⟩ := nat_of_node hn
        rw [hn, if_pos rfl, Int.toNat_natCast] at sn'
        rw [Int.toNat_natCast]
        cases hu : s.up j
        · exact h
        · rw [hu, if_pos rfl] at sn'
          exact mir_joined h j hj sn'
    · exact h
    · exact h
    · exact h
    · exact h
    · exact h

end Go.Proofs.YtpfahgogjeignaaDoor
