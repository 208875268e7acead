/-
  Once all works again: plain reckoning.
-/
import Derived.Test.YtilffakkmjdmnabKeepI
set_option linter.unusedVariables false
set_option linter.unusedSimpArgs false
namespace Go.Proofs.Ytilffakkmjdmnab
open Go.RowKit

/-- All is up, all links work, node i is the holder and knows the epoch. -/
structure Held (s : PC) (i : Nat) : Prop where
  ok : s.Ok
  gate : Gate' s
  up : ∀ j, j < 2 → s.up j = true
  link : ∀ j, j < 3 → s.link j = 0
  holder : s.holder = (i : Int)
  epoch : s.epoch i = s.wepoch

theorem held_arrives {s : PC} {i : Nat} (up : ∀ j, j < 2 → s.up j = true) (link : ∀ j, j < 3 → s.link j = 0) (hi : i < 2) : s.arrives i 2 = true ∧ s.answered i 2 = true ∧ s.arrives i (1 - i) = true ∧ s.answered i (1 - i) = true := by
  unfold PC.answered PC.arrives
  rw [link (i + 2 - 1) (by omega), link (i + (1 - i) - 1) (by omega), up (1 - i) (by omega)]
  simp
theorem held_passed {s : PC} {i : Nat} (h : Held s i) (t : Int) (t0 : 0 ≤ t) (t1 : t ≤ 1000000000000 - s.now) : Held (s.passed t) i :=
  ⟨passed_ok h.ok t t0 t1, ⟨gate_passed h.gate.g t t0, h.gate.w0⟩, h.up, h.link, h.holder, h.epoch⟩
/-- The holder is granted the lease anew; its windows stay. -/
theorem held_campaigned {s : PC} {i : Nat} (h : Held s i) (hi : i < 2) : (s.campaigned (i : Int)).1 = 1 ∧ Held (s.campaigned (i : Int)).2 i ∧ (s.campaigned (i : Int)).2.hasLease i = true ∧ (s.campaigned (i : Int)).2.lev = s.lev ∧ (s.campaigned (i : Int)).2.win = s.win ∧ (s.campaigned (i : Int)).2.now = s.now ∧ (s.campaigned (i : Int)).2.solo = s.solo ∧ (s.campaigned (i : Int)).2.wtil = s.now + s.lease ∧ (s.campaigned (i : Int)).2.window = s.window ∧ (s.campaigned (i : Int)).2.count = s.count ∧ (s.campaigned (i : Int)).2.rate = s.rate ∧ (s.campaigned (i : Int)).2.burst = s.burst ∧ (s.campaigned (i : Int)).2.lease = s.lease := by
  obtain ⟨a1, a2, _, _⟩ := held_arrives h.up h.link hi
  have hm : s.mayLead (i : Int) = true := by
    unfold PC.mayLead
    rw [h.holder]
    simp
  have hg := gate_granted h.ok h.gate.g i hi hm
  have e1 : s.granted (i : Int) = { s with wtil := s.now + s.lease } := by
    unfold PC.granted
    rw [if_pos h.holder]
  have e : s.campaigned (i : Int) = (1, (s.granted (i : Int)).took i) := by
    unfold PC.campaigned
    rw [Int.toNat_natCast, if_pos a1, if_pos hm, if_pos a2]
  have ok2 := campaigned_ok h.ok (i : Int)
  have w2 := campaigned_w0 h.ok h.gate.w0 (i : Int)
  have gt := gate_took hg.1 i hg.2.1
  rw [e] at ok2 w2
  rw [e1] at ok2 w2 gt
  rw [e, e1]
  have hep : ({ s with wtil := s.now + s.lease } : PC).epoch i = ({ s with wtil := s.now + s.lease } : PC).wepoch := h.epoch
  have l0 := h.ok.lease0
  refine ⟨rfl, ⟨ok2, ⟨gt, w2⟩, h.up, h.link, h.holder, ?_⟩, ?_, rfl, ?_, rfl, rfl, rfl, rfl, rfl, rfl, rfl, rfl⟩
  · show upd s.epoch i s.wepoch i = s.wepoch
    exact upd_same _ _ _
  · unfold PC.hasLease
    show (s.up i && decide (s.now < upd s.til i (s.now + s.lease) i)) = true
    rw [upd_same, h.up i hi]
    simp
    omega
  · show (if s.epoch i = s.wepoch then s.win else upd s.win i (fun _ => 0)) = s.win
    rw [if_pos h.epoch]

/-- What is secured is secured where all works: nothing but levels turns. -/
theorem held_secured {s : PC} {i : Nat} (up : ∀ j, j < 2 → s.up j = true) (link : ∀ j, j < 3 → s.link j = 0) (hi : i < 2) (k : Nat) (amt : Int) : (s.secured i k amt).1 = true ∧ ((s.secured i k amt).2 = s ∨ (s.secured i k amt).2 = s.charged (1 - i) k amt) := by
  obtain ⟨_, _, _, a4⟩ := held_arrives up link hi
  unfold PC.secured
  split
  · exact ⟨rfl, .inl rfl⟩
  · exact ⟨rfl, .inr rfl⟩
/-- A request where all works: Admit or Deny, by the level and the window. -/
theorem held_asked {s : PC} {i : Nat} (h : Held s i) (hi : i < 2) (hl : s.hasLease i = true) (k : Nat) (cost : Int) (c0 : 1 ≤ cost) (c1 : cost ≤ 2000000) :
    (s.lev i k < cost - s.win i k → s.asked i k cost = (6, s)) ∧ (¬ s.lev i k < cost - s.win i k → (s.asked i k cost).1 = 5) ∧ Held (s.asked i k cost).2 i ∧ (s.asked i k cost).2.hasLease i = true ∧ (s.asked i k cost).2.solo = s.solo ∧ (s.asked i k cost).2.wtil = s.wtil ∧ (s.asked i k cost).2.now = s.now ∧ (s.asked i k cost).2.count = s.count ∧ (s.asked i k cost).2.lease = s.lease ∧ (s.asked i k cost).2.alone = s.alone := by
  have l0 := h.ok.lev0 i k
  have hs := held_secured (i := i) h.up h.link hi k (reserveOf (s.lev i k) (s.win i k) s.window cost)
  have ok2 := asked_ok h.ok i k cost c0 c1
  have g2 := gate_asked h.gate.g i k cost
  have w2 := asked_w s i k cost
  have who := asked_who s i k cost
  have hlk : (s.asked i k cost).2.hasLease i = true := by
    unfold PC.hasLease at hl ⊢
    rw [who.1, who.2.1, who.2.2.1]
    exact hl
  have hd : s.lev i k < cost - s.win i k → s.asked i k cost = (6, s) := by
    intro hd
    unfold PC.asked
    rw [if_pos hl, if_neg (by omega), if_pos hd]
  have ha : ¬ s.lev i k < cost - s.win i k → (s.asked i k cost).1 = 5 := by
    intro hn
    unfold PC.asked
    rw [if_pos hl]
    split
    · rfl
    · rw [if_pos hs.1]
  have keep : (s.asked i k cost).2.link = s.link ∧ (s.asked i k cost).2.holder = s.holder ∧ (s.asked i k cost).2.epoch = s.epoch ∧ (s.asked i k cost).2.wepoch = s.wepoch ∧ (s.asked i k cost).2.solo = s.solo ∧ (s.asked i k cost).2.count = s.count ∧ (s.asked i k cost).2.lease = s.lease ∧ (s.asked i k cost).2.alone = s.alone := by
    unfold PC.asked
    rw [if_pos hl]
    split
    · exact ⟨rfl, rfl, rfl, rfl, rfl, rfl, rfl, rfl⟩
    · split
      · exact ⟨rfl, rfl, rfl, rfl, rfl, rfl, rfl, rfl⟩
      · rw [if_pos hs.1]
        rcases hs.2 with e | e <;> rw [e] <;> exact ⟨rfl, rfl, rfl, rfl, rfl, rfl, rfl, rfl⟩
  obtain ⟨q1, q2, q3, q4, q5, q6, q7, q8⟩ := keep
  refine ⟨hd, ha, ⟨ok2, ⟨g2, by rw [w2]; exact h.gate.w0⟩, by rw [who.1]; exact h.up, by rw [q1]; exact h.link, by rw [q2]; exact h.holder, by rw [q3, q4]; exact h.epoch⟩, hlk, q5, w2, who.2.2.1, q6, q7, q8⟩

/-- Who may be the holder. -/
def Who (s : PC) : Prop := s.holder = -1 ∨ s.holder = 0 ∨ s.holder = 1
/-- Node i is granted a lease where all is up and works. -/
theorem given_held {s : PC} (ok : s.Ok) (g : Gate' s) (up : ∀ j, j < 2 → s.up j = true) (link : ∀ j, j < 3 → s.link j = 0) (i : Nat) (hi : i < 2) (hm : s.mayLead (i : Int) = true) : (s.campaigned (i : Int)).1 = 1 ∧ Held (s.campaigned (i : Int)).2 i ∧ (s.campaigned (i : Int)).2.hasLease i = true := by
  obtain ⟨a1, a2, _, _⟩ := held_arrives up link hi
  have hg := gate_granted ok g.g i hi hm
  have e : s.campaigned (i : Int) = (1, (s.granted (i : Int)).took i) := by
    unfold PC.campaigned
    rw [Int.toNat_natCast, if_pos a1, if_pos hm, if_pos a2]
  have ok2 := campaigned_ok ok (i : Int)
  have w2 := campaigned_w0 ok g.w0 (i : Int)
  have gt := gate_took hg.1 i hg.2.1
  rw [e] at ok2 w2
  rw [e]
  have kp : (s.granted (i : Int)).up = s.up ∧ (s.granted (i : Int)).link = s.link := by
    unfold PC.granted
    split <;> exact ⟨rfl, rfl⟩
  have l0 := ok.lease0
  refine ⟨rfl, ⟨ok2, ⟨gt, w2⟩, ?_, ?_, hg.2.1, ?_⟩, ?_⟩
  · show ∀ j, j < 2 → (s.granted (i : Int)).up j = true
    rw [kp.1]; exact up
  · show ∀ j, j < 3 → (s.granted (i : Int)).link j = 0
    rw [kp.2]; exact link
  · show upd (s.granted (i : Int)).epoch i (s.granted (i : Int)).wepoch i = (s.granted (i : Int)).wepoch
    exact upd_same _ _ _
  · unfold PC.hasLease
    show ((s.granted (i : Int)).up i && decide ((s.granted (i : Int)).now < upd (s.granted (i : Int)).til i (s.granted (i : Int)).wtil i)) = true
    rw [upd_same, kp.1, up i hi, hg.2.2.1, hg.2.2.2]
    simp
    omega
/-- Once all works and the leases have run out: node 0 is granted it, or it is refused, and node 1 is. -/
theorem heals {s : PC} (ok : s.Ok) (g : Gate' s) (who : Who s) (up : ∀ j, j < 2 → s.up j = true) (link : ∀ j, j < 3 → s.link j = 0) (hw : s.wtil ≤ s.now) :
    ((s.campaigned 0).1 = 1 ∧ Held (s.campaigned 0).2 0 ∧ (s.campaigned 0).2.hasLease 0 = true) ∨ (s.campaigned 0 = (2, s) ∧ (s.campaigned 1).1 = 1 ∧ Held (s.campaigned 1).2 1 ∧ (s.campaigned 1).2.hasLease 1 = true) := by
  cases hm : s.mayLead 0
  · refine .inr ⟨?_, given_held ok g up link 1 (by omega) ?_⟩
    · obtain ⟨a1, a2, _, _⟩ := held_arrives (i := 0) up link (by omega)
      unfold PC.campaigned
      rw [show (0 : Int).toNat = 0 from rfl, if_pos a1, hm, if_neg (by simp), if_pos a2]
    · unfold PC.mayLead at hm ⊢
      simp at hm
      rcases who with e | e | e
      · exact absurd e hm.1.2
      · exact absurd e hm.1.1
      · simp [e]
  · exact .inl (given_held ok g up link 0 (by omega) hm)

end Go.Proofs.Ytilffakkmjdmnab
