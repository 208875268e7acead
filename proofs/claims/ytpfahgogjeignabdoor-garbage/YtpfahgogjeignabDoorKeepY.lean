/-
  A cluster behind a script: plain reckoning.
-/
import Derived.Test.YtpfahgogjeignabDoorPlain
set_option linter.unusedVariables false
set_option linter.unusedSimpArgs false
namespace Go.Proofs.YtpfahgogjeignabDoor
open Go.RowKit

/-- What no step turns. -/
def PC.fix (s : PC) : Int × Int × Int × (Nat → Int) × (Nat → Int) := (s.lease, s.window, s.count, s.rate, s.burst)
theorem second_fx (s : PC) (i : Nat) : (s.second i).2.fix = s.fix := by
  unfold PC.second
  dsimp only
  split
  · rfl
  · split <;> rfl
theorem secured_fx (s : PC) (i k : Nat) (amt : Int) : (s.secured i k amt).2.fix = s.fix := by
  unfold PC.secured
  split
  · rfl
  · split
    · rfl
    · split
      · exact second_fx (s.charged (1 - i) k amt) i
      · exact second_fx s i
theorem asked_fx (s : PC) (i k : Nat) (cost : Int) : (s.asked i k cost).2.fix = s.fix := by
  have hs := secured_fx s i k (reserveOf (s.lev i k) (s.win i k) s.window cost)
  unfold PC.asked
  split
  · split
    · rfl
    · split
      · rfl
      · split
        · exact hs
        · exact hs
  · rfl
theorem campaigned_fx (s : PC) (i : Int) : (s.campaigned i).2.fix = s.fix := by
  have hg : (s.granted i).fix = s.fix := by
    unfold PC.granted
    split <;> rfl
  unfold PC.campaigned
  split
  · split
    · split
      · exact hg
      · exact hg
    · rfl
  · rfl
theorem joined_fx (s : PC) (i : Nat) : (s.joined i).2.fix = s.fix := by
  unfold PC.joined PC.joinEnd
  split
  · split
    · dsimp only
      split <;> rfl
    · dsimp only
      split <;> rfl
  · rfl
theorem call_fx (s : PC) (k x y z : Int) : (s.call k x y z).2.fix = s.fix := by
  by_cases hk : k < 1 ∨ 12 < k
  · have e : s.call k x y z = (⟨0, 0, 0, 0, 0⟩, s) := by
      unfold PC.call
      rw [if_neg (by omega), if_neg (by omega), if_neg (by omega), if_neg (by omega), if_neg (by omega), if_neg (by omega), if_neg (by omega), if_neg (by omega), if_neg (by omega), if_neg (by omega), if_neg (by omega), if_neg (by omega)]
    rw [e]
  · rcases (by omega : k = 1 ∨ k = 2 ∨ k = 3 ∨ k = 4 ∨ k = 5 ∨ k = 6 ∨ k = 7 ∨ k = 8 ∨ k = 9 ∨ k = 10 ∨ k = 11 ∨ k = 12) with rfl | rfl | rfl | rfl | rfl | rfl | rfl | rfl | rfl | rfl | rfl | rfl
    · show (s.passR x).2.fix = s.fix
      unfold PC.passR
      split <;> rfl
    · show (s.linkR x y z).2.fix = s.fix
      unfold PC.linkR
      split <;> rfl
    · show (s.crashR x).2.fix = s.fix
      unfold PC.crashR
      split
      · split <;> rfl
      · rfl
    · show (s.startR x).2.fix = s.fix
      unfold PC.startR
      split
      · split <;> rfl
      · rfl
    · show (s.campR x).2.fix = s.fix
      unfold PC.campR
      split
      · split
        · exact campaigned_fx s x
        · rfl
      · rfl
    · show (s.askR x y z).2.fix = s.fix
      unfold PC.askR
      split
      · split
        · exact asked_fx s _ _ _
        · rfl
      · rfl
    · show (s.joinR x).2.fix = s.fix
      unfold PC.joinR
      split
      · split
        · exact joined_fx s _
        · rfl
      · rfl
    · rfl
    · rfl
    · rfl
    · rfl
    · rfl
/-- Behind so many steps of a script. -/
def PC.runTo (s : PC) (K X Y Z : Nat → Int) : Nat → PC
  | 0 => s
  | i + 1 => ((s.runTo K X Y Z i).call (K i) (X i) (Y i) (Z i)).2
theorem runTo_sane {s : PC} (h : Sane s) (K X Y Z : Nat → Int) (i : Nat) : Sane (s.runTo K X Y Z i) := by
  induction i with
  | zero => exact h
  | succ i ih => exact sane_call ih _ _ _ _
theorem runTo_fx (s : PC) (K X Y Z : Nat → Int) (i : Nat) : (s.runTo K X Y Z i).fix = s.fix := by
  induction i with
  | zero => rfl
  | succ i ih => exact (call_fx _ _ _ _ _).trans ih

/-- All is up, all links work. -/
def PC.mend (s : PC) : PC := (((((s.startR 0).2.startR 1).2.linked 0 1 0).linked 0 2 0).linked 1 2 0)
theorem started_up (s : PC) (i : Int) (h : isNodeB i = true) : (s.startR i).2.up i.toNat = true ∧ (∀ j, s.up j = true → (s.startR i).2.up j = true) ∧ (s.startR i).2.now = s.now ∧ (s.startR i).2.wtil = s.wtil ∧ (s.startR i).2.link = s.link := by
  unfold PC.startR
  rw [if_pos h]
  cases hu : s.up i.toNat
  · refine ⟨?_, fun j hj => ?_, rfl, rfl, rfl⟩
    · show upd s.up i.toNat true i.toNat = true
      exact upd_same _ _ _
    · show upd s.up i.toNat true j = true
      unfold upd
      split
      · rfl
      · exact hj
  · exact ⟨hu, fun j hj => hj, rfl, rfl, rfl⟩
theorem mend_is (s : PC) : (∀ j, j < 2 → s.mend.up j = true) ∧ (∀ j, j < 3 → s.mend.link j = 0) ∧ s.mend.now = s.now ∧ s.mend.wtil = s.wtil := by
  have a := started_up s 0 rfl
  have b := started_up (s.startR 0).2 1 rfl
  refine ⟨fun j hj => ?_, fun j hj => ?_, ?_, ?_⟩
  · show ((s.startR 0).2.startR 1).2.up j = true
    rcases (by omega : j = 0 ∨ j = 1) with rfl | rfl
    · exact b.2.1 0 a.1
    · exact b.1
  · show upd (upd (upd _ 0 0) 1 0) 2 0 j = (0 : Int)
    rcases (by omega : j = 0 ∨ j = 1 ∨ j = 2) with rfl | rfl | rfl <;> rfl
  · show ((s.startR 0).2.startR 1).2.now = s.now
    rw [b.2.2.1, a.2.2.1]
  · show ((s.startR 0).2.startR 1).2.wtil = s.wtil
    rw [b.2.2.2.1, a.2.2.2.1]
theorem mend_sane {s : PC} (h : Sane s) : Sane s.mend ∧ s.mend.fix = s.fix := by
  have a1 : Sane (s.startR 0).2 := sane_call h 4 0 0 0
  have a2 : Sane ((s.startR 0).2.startR 1).2 := sane_call a1 4 1 0 0
  have a3 : Sane (((s.startR 0).2.startR 1).2.linked 0 1 0) := sane_call a2 2 0 1 0
  have a4 : Sane ((((s.startR 0).2.startR 1).2.linked 0 1 0).linked 0 2 0) := sane_call a3 2 0 2 0
  have a5 : Sane s.mend := sane_call a4 2 1 2 0
  have b1 : (s.startR 0).2.fix = s.fix := call_fx s 4 0 0 0
  have b2 : ((s.startR 0).2.startR 1).2.fix = (s.startR 0).2.fix := call_fx _ 4 1 0 0
  exact ⟨a5, b2.trans b1⟩
theorem campaigned_wtil (s : PC) (i : Int) (h : (s.campaigned i).1 = 1) : (s.campaigned i).2.wtil = s.now + s.lease := by
  unfold PC.campaigned at h ⊢
  by_cases h1 : s.arrives i.toNat 2 = true
  · rw [if_pos h1] at h ⊢
    by_cases h2 : s.mayLead i = true
    · rw [if_pos h2] at h ⊢
      have e : (s.granted i).wtil = s.now + s.lease := by
        unfold PC.granted
        split <;> rfl
      split
      · exact e
      · exact e
    · rw [if_neg h2] at h
      dsimp only at h
      split at h <;> cases h
  · rw [if_neg h1] at h
    cases h
/-- Node i has the lease, all works. -/
structure Led (s : PC) (i : Nat) : Prop where
  i2 : i < 2
  held : Held s i
  has : s.hasLease i = true
  sane : Sane s
  wt : s.wtil = s.now + s.lease
theorem camp_sane {s : PC} (h : Sane s) (i : Nat) (hi : i < 2) (hu : s.up i = true) : Sane (s.campaigned (i : Int)).2 := by
  have a : Sane (s.campR (i : Int)).2 := sane_call h 5 i 0 0
  have hn : isNodeB (i : Int) = true := by
    rcases (by omega : i = 0 ∨ i = 1) with rfl | rfl <;> rfl
  unfold PC.campR at a
  rw [if_pos hn, Int.toNat_natCast, if_pos hu] at a
  exact a
/-- Behind all that was: node 0 is granted the lease, or node 1. -/
theorem led_of {s : PC} (h : Sane s) (t0 : s.now ≤ 1000000000000 - s.lease) :
    ((s.mend.passed s.lease).campaigned 0).1 = 1 ∧ Led ((s.mend.passed s.lease).campaigned 0).2 0 ∨ (s.mend.passed s.lease).campaigned 0 = (2, s.mend.passed s.lease) ∧ ((s.mend.passed s.lease).campaigned 1).1 = 1 ∧ Led ((s.mend.passed s.lease).campaigned 1).2 1 := by
  obtain ⟨m1, m2, m3, m4⟩ := mend_is s
  obtain ⟨ms, mf⟩ := mend_sane h
  have l0 := h.ok.lease0
  have hp : Sane (s.mend.passed s.lease) := sane_passed ms s.lease (by omega) (by omega)
  have hw := h.gate.g.wt
  have hn : (s.mend.passed s.lease).now = s.now + s.lease := by
    show s.mend.now + s.lease = _
    rw [m3]
  have hle : (s.mend.passed s.lease).lease = s.lease := by
    have := congrArg Prod.fst mf
    exact this
  have hw2 : (s.mend.passed s.lease).wtil ≤ (s.mend.passed s.lease).now := by
    show s.mend.wtil ≤ _
    rw [hn, m4]
    exact hw
  rcases heals hp.ok hp.gate hp.who m1 m2 hw2 with ⟨a, b, c⟩ | ⟨a0, a, b, c⟩
  · have n1 := campaigned_now (s.mend.passed s.lease) 0
    have e1 : ((s.mend.passed s.lease).campaigned 0).2.lease = (s.mend.passed s.lease).lease := congrArg Prod.fst (campaigned_fx (s.mend.passed s.lease) 0)
    exact .inl ⟨a, by omega, b, c, camp_sane hp 0 (by omega) (m1 0 (by omega)), by rw [campaigned_wtil _ _ a, n1, e1]⟩
  · have n1 := campaigned_now (s.mend.passed s.lease) 1
    have e1 : ((s.mend.passed s.lease).campaigned 1).2.lease = (s.mend.passed s.lease).lease := congrArg Prod.fst (campaigned_fx (s.mend.passed s.lease) 1)
    exact .inr ⟨a0, a, by omega, b, c, camp_sane hp 1 (by omega) (m1 1 (by omega)), by rw [campaigned_wtil _ _ a, n1, e1]⟩

/-- So many ticks later, the lease renewed. -/
def PC.later (s : PC) (t : Int) (i : Nat) : PC := ((s.passed t).campaigned (i : Int)).2
theorem later_is {s : PC} {i : Nat} (h : Held s i) (hi : i < 2) (t : Int) (t0 : 0 ≤ t) (t1 : t ≤ 1000000000000 - s.now) (k : Nat) (hk : (k : Int) < s.count) (cost : Int) (c0 : 1 ≤ cost) (c1 : cost ≤ 2000000) :
    ((s.passed t).campaigned (i : Int)).1 = 1 ∧ Held (s.later t i) i ∧ (s.later t i).hasLease i = true ∧ (s.later t i).now = s.now + t ∧ (s.later t i).fix = s.fix ∧ (s.later t i).lev i k = s.grown k (s.lev i k) t ∧ (s.later t i).win i k = s.win i k ∧ (s.grown k (s.lev i k) t < cost - s.win i k → (s.later t i).asked i k cost = (6, s.later t i)) ∧ (¬ s.grown k (s.lev i k) t < cost - s.win i k → ((s.later t i).asked i k cost).1 = 5) := by
  have hp := held_passed h t t0 t1
  obtain ⟨a1, a2, a3, a4, a5, a6, _⟩ := held_campaigned hp hi
  have hl : (s.later t i).lev i k = s.grown k (s.lev i k) t := by
    show ((s.passed t).campaigned (i : Int)).2.lev i k = _
    rw [a4]
    exact passed_lev t i k hi hk
  have hw : (s.later t i).win i k = s.win i k := by
    show ((s.passed t).campaigned (i : Int)).2.win i k = _
    rw [a5]
    rfl
  have q := held_asked (s := s.later t i) a2 hi a3 k cost c0 c1
  rw [hl, hw] at q
  exact ⟨a1, a2, a3, a6, (campaigned_fx (s.passed t) (i : Int)).trans rfl, hl, hw, q.1, q.2.1⟩
theorem fix_grown {s s' : PC} (h : s'.fix = s.fix) (k : Nat) (l t : Int) : s'.grown k l t = s.grown k l t := by
  unfold PC.fix at h
  simp only [Prod.mk.injEq] at h
  obtain ⟨_, h2, _, h4, h5⟩ := h
  unfold PC.grown
  rw [h2, h4, h5]
theorem fix_count {s s' : PC} (h : s'.fix = s.fix) : s'.count = s.count ∧ s'.lease = s.lease := by
  unfold PC.fix at h
  simp only [Prod.mk.injEq] at h
  exact ⟨h.2.2.1, h.1⟩
/-- How long must be waited, and that it is worth it. -/
theorem waits_well {s : PC} {i : Nat} (h : Led s i) (k : Nat) (hk : (k : Int) < s.count) (cost : Int) (c0 : 1 ≤ cost) (c1 : cost ≤ 2000000) (d : Int) (hd : d = waitOf (s.lev i k) (cost - s.win i k) (s.rate k) (s.burst k - s.window)) (ht : s.now ≤ 1000000000000 - d - 2000) :
    (d = -1 → ((s.later 1000 i).asked i k cost).1 = 6) ∧ (d = 0 → ((s.later 0 i).asked i k cost).1 = 5) ∧ (1 ≤ d → (s.later (d - 1) i).asked i k cost = (6, s.later (d - 1) i) ∧ (((s.later (d - 1) i).later 1 i).asked i k cost).1 = 5) := by
  have w := wait_grown (i := i) h.held.ok hk (h.sane.room i k h.i2 hk) cost
  rw [← hd] at w
  refine ⟨fun e => ?_, fun e => ?_, fun e => ?_⟩
  · rcases w with ⟨_, q⟩ | ⟨m, e2, _⟩
    · have := (later_is h.held h.i2 1000 (by omega) (by omega) k hk cost c0 c1).2.2.2.2.2.2.2.1 (q 1000)
      rw [this]
    · omega
  · rcases w with ⟨e2, _⟩ | ⟨m, e2, q, _⟩
    · omega
    · obtain rfl : m = 0 := by omega
      refine (later_is h.held h.i2 0 (by omega) (by omega) k hk cost c0 c1).2.2.2.2.2.2.2.2 ?_
      have q' : cost - s.win i k ≤ s.grown k (s.lev i k) 0 := q
      omega
  · rcases w with ⟨e2, _⟩ | ⟨m, e2, q, q2⟩
    · omega
    · have l1 := later_is h.held h.i2 (d - 1) (by omega) (by omega) k hk cost c0 c1
      obtain ⟨x1, x2, x3, x4, x5, x6, x7, x8, x9⟩ := l1
      have q3 := q2 (m - 1) (by omega)
      have e3 : ((m - 1 : Nat) : Int) = d - 1 := by omega
      rw [e3] at q3
      refine ⟨x8 q3, ?_⟩
      have hk2 : (k : Int) < (s.later (d - 1) i).count := by rw [(fix_count x5).1]; exact hk
      refine (later_is x2 h.i2 1 (by omega) (by omega) k hk2 cost c0 c1).2.2.2.2.2.2.2.2 ?_
      rw [x6, x7, fix_grown x5, grown_add h.held.ok k _ _ _ (by omega), show d - 1 + 1 = (m : Int) by omega]
      have q' : cost - s.win i k ≤ s.grown k (s.lev i k) (m : Int) := q
      omega

end Go.Proofs.YtpfahgogjeignabDoor
