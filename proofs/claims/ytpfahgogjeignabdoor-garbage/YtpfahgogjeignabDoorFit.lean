/-
  What a cluster that is written down may hold: bounds of all its numbers; what is not in use is 0.
-/
import Derived.Test.YtpfahgogjeignabDoorPlainB
set_option linter.unusedVariables false
set_option linter.unusedSimpArgs false
namespace Go.Proofs.YtpfahgogjeignabDoor
open Go.RowKit

/-- Levels and windows of tenants that are not there are 0. -/
def Bare (s : PC) (k : Nat) : Prop := ∀ i, i < 2 → s.lev i k = 0 ∧ s.win i k = 0
structure Fit0 (s : PC) (m : Nat) : Prop where
  sane : Sane s
  ep : Ep s m
  link : ∀ j, j < 3 → 0 ≤ s.link j ∧ s.link j ≤ 2
  ep0 : ∀ i, i < 2 → 0 ≤ s.epoch i
  til0 : ∀ i, i < 2 → 0 ≤ s.til i
  rb : ∀ k : Nat, s.count ≤ (k : Int) → s.rate k = 0 ∧ s.burst k = 0
  bare : ∀ k : Nat, s.count ≤ (k : Int) → Bare s k

theorem Fit0.later {s : PC} {m : Nat} (h : Fit0 s m) : Fit0 s (m + 1) := ⟨h.sane, ep_later h.ep, h.link, h.ep0, h.til0, h.rb, h.bare⟩
theorem fit0_fresh {le wi : Int} {n : Nat} {R B : Nat → Int} (g : Good le wi n R B) : Fit0 (PC.fresh le wi n R B n 2 (-1)) 0 := by
  refine ⟨sane_fresh g, ep_fresh le wi n R B, fun j _ => ⟨Int.le_refl _, by show (0 : Int) ≤ 2; omega⟩, fun _ _ => Int.le_refl _, fun _ _ => Int.le_refl _, fun k hk => ?_, fun k hk i hi => ?_⟩
  · have hk' : ¬ k < n := by
      have : (n : Int) ≤ (k : Int) := hk
      omega
    exact ⟨if_neg hk', if_neg hk'⟩
  · have hk' : ¬ k < n := by
      have : (n : Int) ≤ (k : Int) := hk
      omega
    refine ⟨?_, rfl⟩
    show (if i < 2 then (if k < n then B k - wi else 0) else 0) = 0
    rw [if_pos hi, if_neg hk']
/-- The bounds of the numbers. -/
theorem Fit0.bounds {s : PC} {m : Nat} (h : Fit0 s m) : (∀ i, i < 2 → s.epoch i ≤ (m : Int)) ∧ (∀ i, i < 2 → s.til i ≤ 1000000001000) ∧ 0 ≤ s.wtil ∧ s.wtil ≤ 1000000001000 := by
  have n1 := h.sane.ok.now1
  have l1 := h.sane.ok.lease1
  have wt := h.sane.gate.g.wt
  refine ⟨fun i hi => Int.le_trans (h.ep.ep i hi) h.ep.em, fun i hi => ?_, h.sane.gate.w0, by omega⟩
  have := h.sane.gate.g.til i hi
  omega

theorem charged_bare {s : PC} {k : Nat} (h : Bare s k) (i q : Nat) (hq : q ≠ k) (amt : Int) : Bare (s.charged i q amt) k := by
  intro j hj
  refine ⟨?_, (h j hj).2⟩
  rw [charged_other s i q amt j k (fun e => hq e.2.symm)]
  exact (h j hj).1
theorem second_bare {s : PC} {k : Nat} (h : Bare s k) (i : Nat) : Bare (s.second i).2 k := by
  have e := second_keeps s i
  intro j hj
  rw [e.1, e.2.1]
  exact h j hj
theorem secured_bare {s : PC} {k : Nat} (h : Bare s k) (i q : Nat) (hq : q ≠ k) (amt : Int) : Bare (s.secured i q amt).2 k := by
  unfold PC.secured
  split
  · exact h
  · split
    · exact charged_bare h _ _ hq _
    · split
      · exact second_bare (charged_bare h _ _ hq _) i
      · exact second_bare h i
theorem setWin_bare {s : PC} {k : Nat} (h : Bare s k) (i q : Nat) (hq : q ≠ k) (v : Int) : Bare (s.setWin i q v) k := by
  intro j hj
  refine ⟨(h j hj).1, ?_⟩
  show upd s.win i (upd (s.win i) q v) j k = 0
  unfold upd
  split
  · rename_i e
    dsimp only
    rw [if_neg (Ne.symm hq)]
    rw [← e]
    exact (h j hj).2
  · exact (h j hj).2
theorem asked_bare {s : PC} {k : Nat} (h : Bare s k) (i q : Nat) (hq : q ≠ k) (cost : Int) : Bare (s.asked i q cost).2 k := by
  unfold PC.asked
  split
  · split
    · exact setWin_bare h _ _ hq _
    · split
      · exact h
      · split
        · exact setWin_bare (charged_bare (secured_bare h _ _ hq _) _ _ hq _) _ _ hq _
        · exact secured_bare h _ _ hq _
  · exact h
theorem joined_bare {s : PC} {k : Nat} (h : Bare s k) (i : Nat) (hi : i < 2) : Bare (s.joined i).2 k := by
  have hc : Bare ((s.unaloned i).copied i) k := by
    intro j hj
    refine ⟨?_, (h j hj).2⟩
    show upd s.lev (1 - i) (s.lev i) j k = 0
    unfold upd
    split
    · exact (h i hi).1
    · exact (h j hj).1
  unfold PC.joined PC.joinEnd
  split
  · split
    · dsimp only
      split
      · exact hc
      · exact hc
    · dsimp only
      split
      · exact hc
      · exact h
  · exact h
theorem took_bare {s : PC} {k : Nat} (h : Bare s k) (i : Nat) : Bare (s.took i) k := by
  intro j hj
  refine ⟨(h j hj).1, ?_⟩
  show (if s.epoch i = s.wepoch then s.win else upd s.win i (fun _ => 0)) j k = 0
  split
  · exact (h j hj).2
  · unfold upd
    split
    · rfl
    · exact (h j hj).2
theorem campaigned_bare {s : PC} {k : Nat} (h : Bare s k) (i : Int) : Bare (s.campaigned i).2 k := by
  have hg : Bare (s.granted i) k := by
    unfold PC.granted
    split <;> exact h
  unfold PC.campaigned
  split
  · split
    · split
      · exact took_bare hg _
      · exact hg
    · exact h
  · exact h

/-- Links, epochs, untils. -/
def PC.rim (s : PC) : (Nat → Int) × (Nat → Int) × (Nat → Int) := (s.link, s.epoch, s.til)
theorem second_rim (s : PC) (i : Nat) : (s.second i).2.rim = s.rim := by
  unfold PC.second
  dsimp only
  split
  · rfl
  · split <;> rfl
theorem secured_rim (s : PC) (i k : Nat) (amt : Int) : (s.secured i k amt).2.rim = s.rim := by
  unfold PC.secured
  split
  · rfl
  · split
    · rfl
    · split
      · exact second_rim (s.charged (1 - i) k amt) i
      · exact second_rim s i
theorem asked_rim (s : PC) (i k : Nat) (cost : Int) : (s.asked i k cost).2.rim = s.rim := by
  have hs := secured_rim s i k (reserveOf (s.lev i k) (s.win i k) s.window cost)
  unfold PC.asked
  split
  · split
    · rfl
    · split
      · rfl
      · split
        · exact hs
        · exact hs
  · rfl
theorem joined_rim (s : PC) (i : Nat) : (s.joined i).2.rim = s.rim := by
  unfold PC.joined PC.joinEnd
  split
  · split
    · dsimp only
      split <;> rfl
    · dsimp only
      split <;> rfl
  · rfl
theorem campaigned_rim (s : PC) (i : Int) : (s.campaigned i).2.link = s.link ∧ ((s.campaigned i).2.epoch = s.epoch ∨ (s.campaigned i).2.epoch = upd s.epoch i.toNat (s.campaigned i).2.wepoch) ∧ ((s.campaigned i).2.til = s.til ∨ (s.campaigned i).2.til = upd s.til i.toNat (s.campaigned i).2.wtil) := by
  have hg : (s.granted i).link = s.link ∧ (s.granted i).epoch = s.epoch ∧ (s.granted i).til = s.til := by
    unfold PC.granted
    split <;> exact ⟨rfl, rfl, rfl⟩
  unfold PC.campaigned
  split
  · split
    · split
      · refine ⟨hg.1, .inr ?_, .inr ?_⟩
        · show upd (s.granted i).epoch i.toNat _ = _
          rw [hg.2.1]
          rfl
        · show upd (s.granted i).til i.toNat _ = _
          rw [hg.2.2]
          rfl
      · exact ⟨hg.1, .inl hg.2.1, .inl hg.2.2⟩
    · exact ⟨rfl, .inl rfl, .inl rfl⟩
  · exact ⟨rfl, .inl rfl, .inl rfl⟩

/-- Every step keeps it. -/
theorem fit0_call {s : PC} {m : Nat} (h : Fit0 s m) (hm9 : (m : Int) < 9000000000000000000) (k x y z : Int) : Fit0 (s.call k x y z).2 (m + 1) := by
  have c0 := h.sane.ok.count0
  have hB : Bud s 0 (s.burst 0 - s.window) s.window := by
    have r0 := h.sane.room 0 0 (by omega) (by omega)
    have l0 := h.sane.ok.lev0 0 0
    exact ⟨by omega, Int.le_refl _, h.sane.ok.win0, Int.le_refl _, fun i hi _ => h.sane.room i 0 hi (by omega), fun i _ _ _ => h.sane.ok.wn1 i 0⟩
  have hE := (bud_call h.sane h.ep hm9 (by omega) hB k x y z).1
  have hS := sane_call h.sane k x y z
  have stay : ∀ s' : PC, Sane s' → Ep s' (m + 1) → s'.rim = s.rim → s'.count = s.count ∧ s'.rate = s.rate ∧ s'.burst = s.burst → (∀ k : Nat, s.count ≤ (k : Int) → Bare s' k) → Fit0 s' (m + 1) := by
    intro s' a b c d e
    unfold PC.rim at c
    simp only [Prod.mk.injEq] at c
    obtain ⟨c1, c2, c3⟩ := c
    obtain ⟨d1, d2, d3⟩ := d
    refine ⟨a, b, ?_, ?_, ?_, ?_, ?_⟩
    · rw [c1]; exact h.link
    · rw [c2]; exact h.ep0
    · rw [c3]; exact h.til0
    · rw [d1, d2, d3]; exact h.rb
    · rw [d1]; exact e
  by_cases hk : k < 1 ∨ 12 < k
  · have e : s.call k x y z = (⟨0, 0, 0, 0, 0⟩, s) := by
      unfold PC.call
      rw [if_neg (by omega), if_neg (by omega), if_neg (by omega), if_neg (by omega), if_neg (by omega), if_neg (by omega), if_neg (by omega), if_neg (by omega), if_neg (by omega), if_neg (by omega), if_neg (by omega), if_neg (by omega)]
    rw [e]
    exact h.later
  · rcases (by omega : k = 1 ∨ k = 2 ∨ k = 3 ∨ k = 4 ∨ k = 5 ∨ k = 6 ∨ k = 7 ∨ k = 8 ∨ k = 9 ∨ k = 10 ∨ k = 11 ∨ k = 12) with rfl | rfl | rfl | rfl | rfl | rfl | rfl | rfl | rfl | rfl | rfl | rfl
    · change Sane (s.passR x).2 at hS
      change Ep (s.passR x).2 (m + 1) at hE
      show Fit0 (s.passR x).2 (m + 1)
      unfold PC.passR at hS hE ⊢
      split
      · exact h.later
      · rename_i hn
        rw [if_neg hn] at hS hE
        refine stay _ hS hE rfl ⟨rfl, rfl, rfl⟩ (fun q hq i hi => ⟨?_, (h.bare q hq i hi).2⟩)
        show (if (q : Int) < s.count ∧ i < 2 then _ else s.lev i q) = 0
        rw [if_neg (by omega)]
        exact (h.bare q hq i hi).1
    · change Sane (s.linkR x y z).2 at hS
      change Ep (s.linkR x y z).2 (m + 1) at hE
      show Fit0 (s.linkR x y z).2 (m + 1)
      unfold PC.linkR at hS hE ⊢
      split
      · rename_i hl
        rw [if_pos hl] at hS hE
        refine ⟨hS, hE, fun j hj => ?_, h.ep0, h.til0, h.rb, h.bare⟩
        show 0 ≤ upd s.link _ z j ∧ upd s.link _ z j ≤ 2
        unfold upd
        split
        · unfold linkOk at hl
          simp only [Bool.and_eq_true, Bool.not_eq_true'] at hl
          rcases isMode_cases hl.2 with rfl | rfl | rfl <;> omega
        · exact h.link j hj
      · exact h.later
    · change Sane (s.crashR x).2 at hS
      change Ep (s.crashR x).2 (m + 1) at hE
      show Fit0 (s.crashR x).2 (m + 1)
      unfold PC.crashR at hS hE ⊢
      split
      · rename_i hn
        rw [if_pos hn] at hS hE
        split
        · rename_i hu
          rw [if_pos hu] at hS hE
          refine ⟨hS, hE, h.link, fun i hi => ?_, fun i hi => ?_, h.rb, fun q hq i hi => ⟨(h.bare q hq i hi).1, ?_⟩⟩
          · show 0 ≤ upd s.epoch _ 0 i
            unfold upd
            split
            · exact Int.le_refl _
            · exact h.ep0 i hi
          · show 0 ≤ upd s.til _ 0 i
            unfold upd
            split
            · exact Int.le_refl _
            · exact h.til0 i hi
          · show upd s.win _ (fun _ => 0) i q = 0
            unfold upd
            split
            · rfl
            · exact (h.bare q hq i hi).2
        · exact h.later
      · exact h.later
    · change Sane (s.startR x).2 at hS
      change Ep (s.startR x).2 (m + 1) at hE
      show Fit0 (s.startR x).2 (m + 1)
      unfold PC.startR at hS hE ⊢
      split
      · rename_i hn
        rw [if_pos hn] at hS hE
        split
        · exact h.later
        · rename_i hu
          rw [if_neg hu] at hS hE
          exact stay _ hS hE rfl ⟨rfl, rfl, rfl⟩ (fun q hq => h.bare q hq)
      · exact h.later
    · change Sane (s.campR x).2 at hS
      change Ep (s.campR x).2 (m + 1) at hE
      show Fit0 (s.campR x).2 (m + 1)
      unfold PC.campR at hS hE ⊢
      split
      · rename_i hn
        rw [if_pos hn] at hS hE
        split
        · rename_i hu
          rw [if_pos hu] at hS hE
          obtain ⟨j, hj, rfl⟩ := nat_of_node hn
          obtain ⟨r1, r2, r3⟩ := campaigned_rim s (j : Int)
          have f := campaigned_fix s j hj
          have hr : (s.campaigned (j : Int)).2.rate = s.rate := by
            have hg : (s.granted (j : Int)).rate = s.rate := by
              unfold PC.granted
              split <;> rfl
            unfold PC.campaigned
            split
            · split
              · split
                · exact hg
                · exact hg
              · rfl
            · rfl
          refine ⟨hS, hE, ?_, fun i hi => ?_, fun i hi => ?_, ?_, ?_⟩
          · show ∀ q, q < 3 → 0 ≤ (s.campaigned (j : Int)).2.link q ∧ (s.campaigned (j : Int)).2.link q ≤ 2
            rw [r1]
            exact h.link
          · show 0 ≤ (s.campaigned (j : Int)).2.epoch i
            rcases r2 with e | e
            · rw [e]; exact h.ep0 i hi
            · rw [e]
              unfold upd
              split
              · exact hE.e0
              · exact h.ep0 i hi
          · show 0 ≤ (s.campaigned (j : Int)).2.til i
            rcases r3 with e | e
            · rw [e]; exact h.til0 i hi
            · rw [e]
              unfold upd
              split
              · exact hS.gate.w0
              · exact h.til0 i hi
          · show ∀ q : Nat, (s.campaigned (j : Int)).2.count ≤ (q : Int) → (s.campaigned (j : Int)).2.rate q = 0 ∧ (s.campaigned (j : Int)).2.burst q = 0
            rw [f.2.1, f.1, hr]
            exact h.rb
          · show ∀ q : Nat, (s.campaigned (j : Int)).2.count ≤ (q : Int) → Bare (s.campaigned (j : Int)).2 q
            rw [f.2.1]
            exact fun q hq => campaigned_bare (h.bare q hq) _
        · exact h.later
      · exact h.later
    · change Sane (s.askR x y z).2 at hS
      change Ep (s.askR x y z).2 (m + 1) at hE
      show Fit0 (s.askR x y z).2 (m + 1)
      unfold PC.askR at hS hE ⊢
      split
      · rename_i hw
        rw [if_pos hw] at hS hE
        split
        · rename_i hu
          rw [if_pos hu] at hS hE
          obtain ⟨_, y0, y1, _, c1⟩ := pwrong_bd hw
          have f := asked_fix s h.sane.ok x.toNat y.toNat z c1
          have hr : ∀ i q c, (s.asked i q c).2.rate = s.rate := by
            intro i q c
            have hs2 : ∀ (s : PC) (i : Nat), (s.second i).2.rate = s.rate := by
              intro s i
              unfold PC.second
              dsimp only
              split
              · rfl
              · split <;> rfl
            have hs : ∀ amt, (s.secured i q amt).2.rate = s.rate := by
              intro amt
              unfold PC.secured
              split
              · rfl
              · split
                · rfl
                · split
                  · exact hs2 (s.charged (1 - i) q amt) i
                  · exact hs2 s i
            unfold PC.asked
            split
            · split
              · rfl
              · split
                · rfl
                · split
                  · exact hs _
                  · exact hs _
            · rfl
          exact stay _ hS hE (asked_rim s _ _ _) ⟨f.2.2.1, hr _ _ _, f.1⟩ (fun q hq => asked_bare (h.bare q hq) _ _ (by omega) _)
        · exact h.later
      · exact h.later
    · change Sane (s.joinR x).2 at hS
      change Ep (s.joinR x).2 (m + 1) at hE
      show Fit0 (s.joinR x).2 (m + 1)
      unfold PC.joinR at hS hE ⊢
      split
      · rename_i hn
        rw [if_pos hn] at hS hE
        split
        · rename_i hu
          rw [if_pos hu] at hS hE
          obtain ⟨j, hj, rfl⟩ := nat_of_node hn
          rw [Int.toNat_natCast] at hS hE ⊢
          have f := joined_fix s j hj
          have hr : (s.joined j).2.rate = s.rate := by
            unfold PC.joined PC.joinEnd
            split
            · split
              · dsimp only
                split <;> rfl
              · dsimp only
                split <;> rfl
            · rfl
          exact stay _ hS hE (joined_rim s j) ⟨f.2.1, hr, f.1⟩ (fun q hq => joined_bare (h.bare q hq) j hj)
        · exact h.later
      · exact h.later
    · exact h.later
    · exact h.later
    · exact h.later
    · exact h.later
    · exact h.later

/-- A witness without a holder, or a node that is down, keeps nothing; an epoch is never above its until. -/
structure Neat (s : PC) : Prop where
  none : s.holder = -1 → s.wtil = 0 ∧ s.wepoch = 0
  some : s.holder ≠ -1 → s.lease ≤ s.wtil ∧ 1 ≤ s.wepoch ∧ s.wepoch ≤ s.wtil
  down : ∀ i, i < 2 → s.up i = false → s.epoch i = 0 ∧ s.til i = 0 ∧ s.alone i = false ∧ ∀ k, s.win i k = 0
  one : ∀ k : Nat, (k : Int) < s.count → 1 ≤ s.burst k
/-- What of a cluster Neat speaks of, but for the nodes. -/
def PC.core (s : PC) : Int × Int × Int × Int × Int × (Nat → Int) × (Nat → Bool) := (s.holder, s.wtil, s.wepoch, s.lease, s.count, s.burst, s.up)
theorem neat_of {s s' : PC} (h : Neat s) (e : s'.core = s.core) (hd : ∀ j, j < 2 → s.up j = false → s'.epoch j = s.epoch j ∧ s'.til j = s.til j ∧ s'.alone j = s.alone j ∧ s'.win j = s.win j) : Neat s' := by
  unfold PC.core at e
  simp only [Prod.mk.injEq] at e
  obtain ⟨e1, e2, e3, e4, e5, e6, e7⟩ := e
  refine ⟨?_, ?_, ?_, ?_⟩
  · rw [e1, e2, e3]; exact h.none
  · rw [e1, e2, e3, e4]; exact h.some
  · rw [e7]
    intro i hi hu
    obtain ⟨a, b, c, d⟩ := hd i hi hu
    rw [a, b, c, d]
    exact h.down i hi hu
  · rw [e5, e6]; exact h.one
theorem second_core (s : PC) (i : Nat) : (s.second i).2.core = s.core ∧ (s.second i).2.win = s.win ∧ ∀ j, j ≠ i → (s.second i).2.alone j = s.alone j := by
  unfold PC.second
  dsimp only
  split
  · refine ⟨rfl, rfl, fun j hj => ?_⟩
    show upd s.alone i true j = s.alone j
    exact upd_other _ _ hj
  · split
    · exact ⟨rfl, rfl, fun _ _ => rfl⟩
    · exact ⟨rfl, rfl, fun _ _ => rfl⟩
theorem secured_core (s : PC) (i k : Nat) (amt : Int) : (s.secured i k amt).2.core = s.core ∧ (s.secured i k amt).2.win = s.win ∧ ∀ j, j ≠ i → (s.secured i k amt).2.alone j = s.alone j := by
  unfold PC.secured
  split
  · exact ⟨rfl, rfl, fun _ _ => rfl⟩
  · split
    · exact ⟨rfl, rfl, fun _ _ => rfl⟩
    · split
      · exact second_core (s.charged (1 - i) k amt) i
      · exact second_core s i
theorem asked_core (s : PC) (i k : Nat) (cost : Int) : (s.asked i k cost).2.core = s.core ∧ ∀ j, j ≠ i → (s.asked i k cost).2.alone j = s.alone j ∧ (s.asked i k cost).2.win j = s.win j := by
  have hs := secured_core s i k (reserveOf (s.lev i k) (s.win i k) s.window cost)
  unfold PC.asked
  split
  · split
    · refine ⟨rfl, fun j hj => ⟨rfl, ?_⟩⟩
      show upd s.win i _ j = s.win j
      exact upd_other _ _ hj
    · split
      · exact ⟨rfl, fun _ _ => ⟨rfl, rfl⟩⟩
      · split
        · refine ⟨hs.1, fun j hj => ⟨hs.2.2 j hj, ?_⟩⟩
          show upd (s.secured i k _).2.win i _ j = s.win j
          rw [upd_other _ _ hj, hs.2.1]
        · exact ⟨hs.1, fun j hj => ⟨hs.2.2 j hj, by rw [hs.2.1]⟩⟩
  · exact ⟨rfl, fun _ _ => ⟨rfl, rfl⟩⟩
theorem joined_core (s : PC) (i : Nat) : (s.joined i).2.core = s.core ∧ (s.joined i).2.win = s.win ∧ ∀ j, j ≠ i → (s.joined i).2.alone j = s.alone j := by
  have hu : ∀ j, j ≠ i → upd s.alone i false j = s.alone j := fun j hj => upd_other _ _ hj
  unfold PC.joined PC.joinEnd
  split
  · split
    · dsimp only
      split
      · exact ⟨rfl, rfl, hu⟩
      · exact ⟨rfl, rfl, hu⟩
    · dsimp only
      split
      · exact ⟨rfl, rfl, hu⟩
      · exact ⟨rfl, rfl, hu⟩
  · exact ⟨rfl, rfl, fun _ _ => rfl⟩
theorem wrap_small {x : Int} (h0 : 0 ≤ x) (h1 : x < 9000000000000000000) : wrap64 x = x := by
  unfold wrap64
  omega
theorem granted_neat {s : PC} (h : Neat s) (sa : Sane s) (i : Int) (hi : 0 ≤ i) (hl : s.mayLead i = true) : Neat (s.granted i) := by
  have n0 := sa.ok.now0
  have n1 := sa.ok.now1
  have l0 := sa.ok.lease0
  have l1 := sa.ok.lease1
  have wt := sa.gate.g.wt
  unfold PC.granted
  split
  · rename_i e
    refine ⟨fun hh => ?_, fun hh => ?_, h.down, h.one⟩
    · exact absurd (show s.holder = -1 from hh) (by omega)
    · obtain ⟨a, b, c⟩ := h.some hh
      refine ⟨?_, b, ?_⟩
      · show s.lease ≤ s.now + s.lease; omega
      · show s.wepoch ≤ s.now + s.lease; omega
  · rename_i e
    have he : 0 ≤ s.wepoch ∧ s.wepoch ≤ s.now := by
      by_cases hh : s.holder = -1
      · obtain ⟨a, b⟩ := h.none hh
        omega
      · obtain ⟨a, b, c⟩ := h.some hh
        unfold PC.mayLead at hl
        have hw : s.wtil ≤ s.now := by
          simp only [Bool.or_eq_true, Bool.and_eq_true, beq_iff_eq, decide_eq_true_eq] at hl
          rcases hl with (q | q) | q
          · exact absurd q e
          · exact absurd q hh
          · exact q.1
        omega
    have hw : wrap64 (s.wepoch + 1) = s.wepoch + 1 := wrap_small (by omega) (by omega)
    refine ⟨fun hh => ?_, fun hh => ⟨?_, ?_, ?_⟩, h.down, h.one⟩
    · exact absurd (show i = -1 from hh) (by omega)
    · show s.lease ≤ s.now + s.lease; omega
    · show 1 ≤ wrap64 (s.wepoch + 1); omega
    · show wrap64 (s.wepoch + 1) ≤ s.now + s.lease; omega
theorem took_neat {s : PC} (h : Neat s) (i : Nat) (hu : s.up i = true) : Neat (s.took i) := by
  refine neat_of h rfl (fun j _ hj => ?_)
  have hji : j ≠ i := by
    rintro rfl
    rw [hu] at hj
    cases hj
  refine ⟨upd_other _ _ hji, upd_other _ _ hji, upd_other _ _ hji, ?_⟩
  show (if s.epoch i = s.wepoch then s.win else upd s.win i (fun _ => 0)) j = s.win j
  split
  · rfl
  · exact upd_other _ _ hji
theorem campaigned_neat {s : PC} (h : Neat s) (sa : Sane s) (i : Int) (hi : 0 ≤ i) (hu : s.up i.toNat = true) : Neat (s.campaigned i).2 := by
  unfold PC.campaigned
  split
  · split
    · rename_i hl
      split
      · refine took_neat (granted_neat h sa i hi hl) _ ?_
        unfold PC.granted
        split <;> exact hu
      · exact granted_neat h sa i hi hl
    · exact h
  · exact h
theorem neat_fresh {le wi : Int} {n : Nat} {R B : Nat → Int} (g : Good le wi n R B) : Neat (PC.fresh le wi n R B n 2 (-1)) := by
  refine ⟨fun _ => ⟨rfl, rfl⟩, fun h => absurd rfl h, fun i hi hu => ?_, fun k hk => ?_⟩
  · have : decide (i < 2) = false := hu
    simp at this
    omega
  · have hk' : k < n := by
      have : (k : Int) < (n : Int) := hk
      omega
    show 1 ≤ (if k < n then B k else 0)
    rw [if_pos hk']
    exact (g.ten.2.2 k hk').2.2.1
/-- Every step keeps it. -/
theorem neat_call {s : PC} (h : Neat s) (sa : Sane s) (k x y z : Int) : Neat (s.call k x y z).2 := by
  by_cases hk : k < 1 ∨ 12 < k
  · have e : s.call k x y z = (⟨0, 0, 0, 0, 0⟩, s) := by
      unfold PC.call
      rw [if_neg (by omega), if_neg (by omega), if_neg (by omega), if_neg (by omega), if_neg (by omega), if_neg (by omega), if_neg (by omega), if_neg (by omega), if_neg (by omega), if_neg (by omega), if_neg (by omega), if_neg (by omega)]
    rw [e]
    exact h
  · rcases (by omega : k = 1 ∨ k = 2 ∨ k = 3 ∨ k = 4 ∨ k = 5 ∨ k = 6 ∨ k = 7 ∨ k = 8 ∨ k = 9 ∨ k = 10 ∨ k = 11 ∨ k = 12) with rfl | rfl | rfl | rfl | rfl | rfl | rfl | rfl | rfl | rfl | rfl | rfl
    · show Neat (s.passR x).2
      unfold PC.passR
      split
      · exact h
      · exact ⟨h.none, h.some, h.down, h.one⟩
    · show Neat (s.linkR x y z).2
      unfold PC.linkR
      split
      · exact ⟨h.none, h.some, h.down, h.one⟩
      · exact h
    · show Neat (s.crashR x).2
      unfold PC.crashR
      split
      · split
        · refine ⟨h.none, h.some, fun i hi hu => ?_, h.one⟩
          have hu' : upd s.up x.toNat false i = false := hu
          show upd s.epoch x.toNat 0 i = 0 ∧ upd s.til x.toNat 0 i = 0 ∧ upd s.alone x.toNat false i = false ∧ ∀ k, upd s.win x.toNat (fun _ => 0) i k = 0
          unfold upd at hu' ⊢
          split
          · exact ⟨rfl, rfl, rfl, fun _ => rfl⟩
          · rename_i hn
            rw [if_neg hn] at hu'
            exact h.down i hi hu'
        · exact h
      · exact h
    · show Neat (s.startR x).2
      unfold PC.startR
      split
      · split
        · exact h
        · refine ⟨h.none, h.some, fun i hi hu => ?_, h.one⟩
          have hu' : upd s.up x.toNat true i = false := hu
          unfold upd at hu'
          split at hu'
          · cases hu'
          · exact h.down i hi hu'
      · exact h
    · show Neat (s.campR x).2
      unfold PC.campR
      split
      · rename_i hn
        split
        · rename_i hu
          exact campaigned_neat h sa x (node_bd hn).1 hu
        · exact h
      · exact h
    · show Neat (s.askR x y z).2
      unfold PC.askR
      split
      · split
        · rename_i hu
          have c := asked_core s x.toNat y.toNat z
          have r := asked_rim s x.toNat y.toNat z
          unfold PC.rim at r
          simp only [Prod.mk.injEq] at r
          refine neat_of h c.1 (fun j _ hj => ?_)
          have hji : j ≠ x.toNat := by
            rintro rfl
            rw [hu] at hj
            cases hj
          exact ⟨congrFun r.2.1 j, congrFun r.2.2 j, (c.2 j hji).1, (c.2 j hji).2⟩
        · exact h
      · exact h
    · show Neat (s.joinR x).2
      unfold PC.joinR
      split
      · split
        · rename_i hu
          have c := joined_core s x.toNat
          have r := joined_rim s x.toNat
          unfold PC.rim at r
          simp only [Prod.mk.injEq] at r
          refine neat_of h c.1 (fun j _ hj => ?_)
          have hji : j ≠ x.toNat := by
            rintro rfl
            rw [hu] at hj
            cases hj
          exact ⟨congrFun r.2.1 j, congrFun r.2.2 j, c.2.2 j hji, congrFun c.2.1 j⟩
        · exact h
      · exact h
    · exact h
    · exact h
    · exact h
    · exact h
    · exact h

structure Fit (s : PC) (m : Nat) : Prop extends Fit0 s m where
  neat : Neat s
theorem Fit.later {s : PC} {m : Nat} (h : Fit s m) : Fit s (m + 1) := ⟨h.toFit0.later, h.neat⟩
theorem Fit.bounds {s : PC} {m : Nat} (h : Fit s m) : (∀ i, i < 2 → s.epoch i ≤ (m : Int)) ∧ (∀ i, i < 2 → s.til i ≤ 1000000001000) ∧ 0 ≤ s.wtil ∧ s.wtil ≤ 1000000001000 := h.toFit0.bounds
theorem fit_fresh {le wi : Int} {n : Nat} {R B : Nat → Int} (g : Good le wi n R B) : Fit (PC.fresh le wi n R B n 2 (-1)) 0 := ⟨fit0_fresh g, neat_fresh g⟩
theorem fit_call {s : PC} {m : Nat} (h : Fit s m) (hm9 : (m : Int) < 9000000000000000000) (k x y z : Int) : Fit (s.call k x y z).2 (m + 1) := ⟨fit0_call h.toFit0 hm9 k x y z, neat_call h.neat h.sane k x y z⟩

theorem fit_passed {s : PC} {m : Nat} (h : Fit s m) (hm9 : (m : Int) < 9000000000000000000) (t : Int) (t0 : 0 ≤ t) (t1 : t ≤ 1000000000000 - s.now) : Fit (s.passed t) (m + 1) := by
  have := fit_call h hm9 1 t 0 0
  change Fit (s.passR t).2 (m + 1) at this
  unfold PC.passR at this
  rw [if_neg (by omega)] at this
  exact this
theorem fit_linked {s : PC} {m : Nat} (h : Fit s m) (hm9 : (m : Int) < 9000000000000000000) (x y z : Int) (hl : linkOk x y z = true) : Fit (s.linked x y z) (m + 1) := by
  have := fit_call h hm9 2 x y z
  change Fit (s.linkR x y z).2 (m + 1) at this
  unfold PC.linkR at this
  rw [if_pos hl] at this
  exact this
theorem fit_crashed {s : PC} {m : Nat} (h : Fit s m) (hm9 : (m : Int) < 9000000000000000000) (i : Int) (hi : isNodeB i = true) (hu : s.up i.toNat = true) : Fit (s.crashed i.toNat) (m + 1) := by
  have := fit_call h hm9 3 i 0 0
  change Fit (s.crashR i).2 (m + 1) at this
  unfold PC.crashR at this
  rw [if_pos hi, if_pos hu] at this
  exact this
theorem fit_started {s : PC} {m : Nat} (h : Fit s m) (hm9 : (m : Int) < 9000000000000000000) (i : Int) (hi : isNodeB i = true) (hu : s.up i.toNat = false) : Fit (s.started i.toNat) (m + 1) := by
  have := fit_call h hm9 4 i 0 0
  change Fit (s.startR i).2 (m + 1) at this
  unfold PC.startR at this
  rw [if_pos hi, if_neg (by rw [hu]; simp)] at this
  exact this
theorem fit_campaigned {s : PC} {m : Nat} (h : Fit s m) (hm9 : (m : Int) < 9000000000000000000) (i : Int) (hi : isNodeB i = true) (hu : s.up i.toNat = true) : Fit (s.campaigned i).2 (m + 1) := by
  have := fit_call h hm9 5 i 0 0
  change Fit (s.campR i).2 (m + 1) at this
  unfold PC.campR at this
  rw [if_pos hi, if_pos hu] at this
  exact this
theorem fit_asked {s : PC} {m : Nat} (h : Fit s m) (hm9 : (m : Int) < 9000000000000000000) (i k cost : Int) (hw : s.wrong i k cost = 0) (hu : s.up i.toNat = true) : Fit (s.asked i.toNat k.toNat cost).2 (m + 1) := by
  have := fit_call h hm9 6 i k cost
  change Fit (s.askR i k cost).2 (m + 1) at this
  unfold PC.askR at this
  rw [if_pos hw, if_pos hu] at this
  exact this
theorem fit_joined {s : PC} {m : Nat} (h : Fit s m) (hm9 : (m : Int) < 9000000000000000000) (i : Int) (hi : isNodeB i = true) (hu : s.up i.toNat = true) : Fit (s.joined i.toNat).2 (m + 1) := by
  have := fit_call h hm9 7 i 0 0
  change Fit (s.joinR i).2 (m + 1) at this
  unfold PC.joinR at this
  rw [if_pos hi, if_pos hu] at this
  exact this

/-- Every step keeps a cluster's bounds, whatever else holds. -/
theorem ok_call {s : PC} (h : s.Ok) (k x y z : Int) : (s.call k x y z).2.Ok := by
  by_cases hk : k < 1 ∨ 12 < k
  · have e : s.call k x y z = (⟨0, 0, 0, 0, 0⟩, s) := by
      unfold PC.call
      rw [if_neg (by omega), if_neg (by omega), if_neg (by omega), if_neg (by omega), if_neg (by omega), if_neg (by omega), if_neg (by omega), if_neg (by omega), if_neg (by omega), if_neg (by omega), if_neg (by omega), if_neg (by omega)]
    rw [e]
    exact h
  · rcases (by omega : k = 1 ∨ k = 2 ∨ k = 3 ∨ k = 4 ∨ k = 5 ∨ k = 6 ∨ k = 7 ∨ k = 8 ∨ k = 9 ∨ k = 10 ∨ k = 11 ∨ k = 12) with rfl | rfl | rfl | rfl | rfl | rfl | rfl | rfl | rfl | rfl | rfl | rfl
    · show (s.passR x).2.Ok
      unfold PC.passR
      split
      · exact h
      · exact passed_ok h x (by omega) (by omega)
    · show (s.linkR x y z).2.Ok
      unfold PC.linkR
      split
      · exact ⟨h.lease0, h.lease1, h.win0, h.win1, h.count0, h.count1, h.rate0, h.rate1, h.burst0, h.burst1, h.fits, h.now0, h.now1, h.lev0, h.lev1, h.wn0, h.wn1⟩
      · exact h
    · show (s.crashR x).2.Ok
      unfold PC.crashR
      split
      · split
        · have d0 := h.win0
          refine ⟨h.lease0, h.lease1, h.win0, h.win1, h.count0, h.count1, h.rate0, h.rate1, h.burst0, h.burst1, h.fits, h.now0, h.now1, h.lev0, h.lev1, ?_, ?_⟩
          · intro j q
            show 0 ≤ upd s.win _ (fun _ => 0) j q
            unfold upd
            split
            · exact Int.le_refl _
            · exact h.wn0 j q
          · intro j q
            show upd s.win _ (fun _ => 0) j q ≤ s.window
            unfold upd
            split
            · exact d0
            · exact h.wn1 j q
        · exact h
      · exact h
    · show (s.startR x).2.Ok
      unfold PC.startR
      split
      · split
        · exact h
        · exact ⟨h.lease0, h.lease1, h.win0, h.win1, h.count0, h.count1, h.rate0, h.rate1, h.burst0, h.burst1, h.fits, h.now0, h.now1, h.lev0, h.lev1, h.wn0, h.wn1⟩
      · exact h
    · show (s.campR x).2.Ok
      unfold PC.campR
      split
      · split
        · exact campaigned_ok h x
        · exact h
      · exact h
    · show (s.askR x y z).2.Ok
      unfold PC.askR
      split
      · rename_i hw
        obtain ⟨_, _, _, c0, c1⟩ := pwrong_bd hw
        split
        · exact asked_ok h _ _ _ c0 c1
        · exact h
      · exact h
    · show (s.joinR x).2.Ok
      unfold PC.joinR
      split
      · split
        · exact joined_ok h _
        · exact h
      · exact h
    · exact h
    · exact h
    · exact h
    · exact h
    · exact h

end Go.Proofs.YtpfahgogjeignabDoor
