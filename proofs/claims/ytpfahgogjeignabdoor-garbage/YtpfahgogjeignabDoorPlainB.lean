/-
  What was let by: the bucket, in plain numbers.
-/
import Derived.Test.YtpfahgogjeignabDoorPlain
set_option linter.unusedVariables false
set_option linter.unusedSimpArgs false
namespace Go.Proofs.YtpfahgogjeignabDoor
open Go.RowKit

/-- The epochs: none is above the witness's. -/
structure Ep (s : PC) (m : Nat) : Prop where
  ep : ∀ i : Nat, i < 2 → s.epoch i ≤ s.wepoch
  e0 : 0 ≤ s.wepoch
  em : s.wepoch ≤ (m : Int)
  so : s.holder = -1 → s.solo = false

/-- A bucket g and a window u that bound what tenant k may still let by. -/
structure Bud (s : PC) (k : Nat) (g u : Int) : Prop where
  g0 : 0 ≤ g
  gr : g ≤ s.burst k - s.window
  u0 : 0 ≤ u
  u1 : u ≤ s.window
  lev : ∀ i : Nat, i < 2 → (s.solo = true → s.holder = (i : Int)) → s.lev i k ≤ g
  win : ∀ i : Nat, i < 2 → s.holder = (i : Int) → s.epoch i = s.wepoch → s.win i k ≤ u

theorem bud_fresh {le wi : Int} {n : Nat} {R B : Nat → Int} (g : Good le wi n R B) (k : Nat) (hk : k < n) : Bud (PC.fresh le wi n R B n 2 (-1)) k (B k - wi) wi := by
  have hw := g.win.2 k hk
  refine ⟨by omega, ?_, g.win.1, Int.le_refl _, fun i hi _ => ?_, fun i hi _ _ => g.win.1⟩
  · show B k - wi ≤ (if k < n then B k else 0) - wi
    rw [if_pos hk]
    exact Int.le_refl _
  · show (if i < 2 then (if k < n then B k - wi else 0) else 0 : Int) ≤ B k - wi
    rw [if_pos hi, if_pos hk]
    exact Int.le_refl _
theorem ep_fresh (le wi : Int) (n : Nat) (R B : Nat → Int) : Ep (PC.fresh le wi n R B n 2 (-1)) 0 := ⟨fun _ _ => Int.le_refl _, Int.le_refl _, Int.le_refl _, fun _ => rfl⟩

theorem bud_passed {s : PC} {k : Nat} {g u : Int} (ok : s.Ok) (h : Bud s k g u) (hk : (k : Int) < s.count) (t : Int) (t0 : 0 ≤ t) : Bud (s.passed t) k (s.grown k g t) u ∧ s.grown k g t + u ≤ g + u + s.rate k * t := by
  have r0 := Int.mul_nonneg (ok.rate0 k) t0
  have hg0 := h.g0
  have hgr := h.gr
  refine ⟨⟨?_, ?_, h.u0, h.u1, fun i hi hs => ?_, h.win⟩, ?_⟩
  · unfold PC.grown
    split <;> omega
  · show s.grown k g t ≤ s.burst k - s.window
    unfold PC.grown
    split <;> omega
  · have := h.lev i hi hs
    rw [passed_lev t i k hi hk]
    unfold PC.grown
    split <;> split <;> omega
  · unfold PC.grown
    split <;> omega
theorem bud_crashed {s : PC} {k : Nat} {g u : Int} (h : Bud s k g u) (j : Nat) : Bud (s.crashed j) k g u := by
  refine ⟨h.g0, h.gr, h.u0, h.u1, h.lev, fun i hi hh he => ?_⟩
  show upd s.win j (fun _ => 0) i k ≤ u
  by_cases e : i = j
  · rw [e, upd_same]
    exact h.u0
  · rw [upd_other _ _ e]
    have he' : upd s.epoch j 0 i = s.wepoch := he
    rw [upd_other _ _ e] at he'
    exact h.win i hi hh he'
/-- A grant and its taking. -/
theorem bud_took {s : PC} {k : Nat} {g u : Int} (h : Bud s k g u) (i : Nat) (hi : i < 2) (hh : s.holder = (i : Int)) : Bud (s.took i) k g u := by
  refine ⟨h.g0, h.gr, h.u0, h.u1, h.lev, fun j hj hjh _ => ?_⟩
  have hj' : s.holder = (j : Int) := hjh
  have e : j = i := by omega
  subst e
  show (if s.epoch j = s.wepoch then s.win else upd s.win j (fun _ => 0)) j k ≤ u
  by_cases he : s.epoch j = s.wepoch
  · rw [if_pos he]
    exact h.win j hj hh he
  · rw [if_neg he, upd_same]
    exact h.u0
theorem bud_granted {s : PC} {k m : Nat} {g u : Int} (h : Bud s k g u) (ep : Ep s m) (hm9 : (m : Int) < 9000000000000000000) (i : Nat) (hi : i < 2) (hm : s.mayLead (i : Int) = true) : ∃ u', Bud (s.granted (i : Int)) k g u' ∧ u' ≤ u := by
  unfold PC.granted
  by_cases hh : s.holder = (i : Int)
  · rw [if_pos hh]
    exact ⟨u, ⟨h.g0, h.gr, h.u0, h.u1, h.lev, h.win⟩, Int.le_refl _⟩
  · rw [if_neg hh]
    have hso : s.solo = false := by
      unfold PC.mayLead at hm
      simp only [Bool.or_eq_true, Bool.and_eq_true, beq_iff_eq, decide_eq_true_eq] at hm
      rcases hm with (hm | hm) | hm
      · exact absurd hm hh
      · exact ep.so hm
      · simpa using hm.2
    have hw1 := h.u1
    have hu0 := h.u0
    refine ⟨0, ⟨h.g0, h.gr, Int.le_refl _, by show (0 : Int) ≤ s.window; omega, fun j hj _ => h.lev j hj (fun e => ?_), fun j hj _ he => ?_⟩, h.u0⟩
    · rw [hso] at e; cases e
    · exfalso
      have he' : s.epoch j = wrap64 (s.wepoch + 1) := he
      have h1 := ep.ep j hj
      have h2 := ep.e0
      have h3 := ep.em
      have hwr : wrap64 (s.wepoch + 1) = s.wepoch + 1 := by
        have := IntKind.wrap_i64 (s.wepoch + 1)
        unfold wrap64
        omega
      rw [hwr] at he'
      omega
theorem bud_campaigned {s : PC} {k m : Nat} {g u : Int} (ok : s.Ok) (gt : Gate s) (h : Bud s k g u) (ep : Ep s m) (hm9 : (m : Int) < 9000000000000000000) (i : Nat) (hi : i < 2) : ∃ u', Bud (s.campaigned (i : Int)).2 k g u' ∧ u' ≤ u := by
  unfold PC.campaigned
  split
  · split
    · rename_i hm
      obtain ⟨u', hb, hu⟩ := bud_granted h ep hm9 i hi hm
      have hh := (gate_granted ok gt i hi hm).2.1
      split
      · rw [Int.toNat_natCast]
        exact ⟨u', bud_took hb i hi hh, hu⟩
      · exact ⟨u', hb, hu⟩
    · exact ⟨u, h, Int.le_refl _⟩
  · exact ⟨u, h, Int.le_refl _⟩
/-- The second message: solo may be noted; the holder alone goes on. -/
theorem bud_second {s : PC} {k : Nat} {g u : Int} (h : Bud s k g u) (i : Nat) (hi : i < 2) (hh : s.holder = (i : Int)) : Bud (s.second i).2 k g u := by
  have hso : ∀ t : PC, t.burst = s.burst → t.window = s.window → t.lev = s.lev → t.win = s.win → t.holder = s.holder → t.epoch = s.epoch → t.wepoch = s.wepoch → t.solo = true → Bud t k g u := by
    intro t e1 e2 e3 e4 e5 e6 e7 e8
    refine ⟨h.g0, by rw [e1, e2]; exact h.gr, h.u0, by rw [e2]; exact h.u1, fun j hj hs => ?_, ?_⟩
    · have := hs e8
      rw [e5] at this
      have e : j = i := by omega
      subst e
      rw [e3]
      exact h.lev j hj (fun _ => hh)
    · rw [e4, e5, e6, e7]
      exact h.win
  unfold PC.second
  dsimp only
  split
  · exact hso _ rfl rfl rfl rfl rfl rfl rfl rfl
  · split
    · exact hso _ rfl rfl rfl rfl rfl rfl rfl rfl
    · exact h
theorem bud_charged {s : PC} {k : Nat} {g u : Int} (ok : s.Ok) (h : Bud s k g u) (i q : Nat) (amt : Int) (a0 : 0 ≤ amt) : Bud (s.charged i q amt) k g u :=
  ⟨h.g0, h.gr, h.u0, h.u1, fun j hj hs => Int.le_trans (charged_le s ok i q amt a0 j k) (h.lev j hj hs), h.win⟩
theorem bud_secured {s : PC} {k : Nat} {g u : Int} (ok : s.Ok) (h : Bud s k g u) (i q : Nat) (hi : i < 2) (hh : s.holder = (i : Int)) (amt : Int) (a0 : 0 ≤ amt) : Bud (s.secured i q amt).2 k g u := by
  unfold PC.secured
  split
  · exact h
  · split
    · exact bud_charged ok h _ _ _ a0
    · split
      · exact bud_second (bud_charged ok h _ _ _ a0) i hi hh
      · exact bud_second h i hi hh
theorem charged_other (s : PC) (i q : Nat) (amt : Int) (j k : Nat) (h : ¬ (j = i ∧ k = q)) : (s.charged i q amt).lev j k = s.lev j k := by
  show upd s.lev i (upd (s.lev i) q (chargedLev (s.lev i q) amt)) j k = s.lev j k
  unfold upd
  split
  · rename_i e1
    dsimp only
    split
    · rename_i e2; exact absurd ⟨e1, e2⟩ h
    · rw [e1]
  · rfl
theorem charged_at (s : PC) (i q : Nat) (amt : Int) : (s.charged i q amt).lev i q = chargedLev (s.lev i q) amt := by
  show upd s.lev i (upd (s.lev i) q (chargedLev (s.lev i q) amt)) i q = _
  unfold upd
  simp
/-- Where the other may yet take over, it was told. -/
theorem secured_told {s : PC} (gt : Gate s) {i : Nat} (hi : i < 2) (hl : s.now < s.til i) (k : Nat) (amt : Int) (h1 : (s.secured i k amt).1 = true) (h2 : (s.secured i k amt).2.solo = false) : s.solo = false ∧ (s.secured i k amt).2 = s.charged (1 - i) k amt := by
  unfold PC.secured at h1 h2 ⊢
  by_cases ha : s.alone i = true
  · rw [if_pos ha] at h2
    rw [gt.alone i hi hl ha] at h2
    cases h2
  · rw [if_neg ha] at h1 h2 ⊢
    by_cases hw : s.answered i (1 - i) = true
    · rw [if_pos hw] at h2 ⊢
      exact ⟨h2, rfl⟩
    · rw [if_neg hw] at h1 h2
      exfalso
      have key : ∀ t : PC, (t.second i).1 = true → (t.second i).2.solo = false → False := by
        intro t q1 q2
        unfold PC.second at q1 q2
        dsimp only at q1 q2
        rw [if_pos q1] at q2
        cases q2
      split at h1
      · rename_i hx
        rw [if_pos hx] at h2
        exact key _ h1 h2
      · rename_i hx
        rw [if_neg hx] at h2
        exact key _ h1 h2
theorem bud_setWin {s : PC} {k : Nat} {g u : Int} (h : Bud s k g u) (i q : Nat) (v : Int) (hq : q ≠ k) : Bud (s.setWin i q v) k g u := by
  refine ⟨h.g0, h.gr, h.u0, h.u1, h.lev, fun j hj hh he => ?_⟩
  show upd s.win i (upd (s.win i) q v) j k ≤ u
  have := h.win j hj hh he
  unfold upd
  split
  · rename_i e
    dsimp only
    split
    · rename_i e2; exact absurd e2.symm hq
    · rw [← e]; exact this
  · exact this
/-- A request of another tenant. -/
theorem bud_asked_other {s : PC} {k : Nat} {g u : Int} (ok : s.Ok) (gt : Gate s) (h : Bud s k g u) (i q : Nat) (hi : i < 2) (hq : q ≠ k) (cost : Int) (c1 : cost ≤ 2000000) : Bud (s.asked i q cost).2 k g u := by
  unfold PC.asked
  split
  · rename_i hl
    have hh := (gt.hold i hi (hasLease_til hl)).1
    split
    · exact bud_setWin h i q _ hq
    · rename_i hc
      split
      · exact h
      · have hb := reserve_bd (lev := s.lev i q) (ok.wn0 i q) hc c1 ok.win0 ok.win1
        generalize reserveOf (s.lev i q) (s.win i q) s.window cost = amt at *
        have o2 := secured_ok ok i q amt hb.1
        have b2 := bud_secured ok h i q hi hh amt hb.1
        split
        · exact bud_setWin (bud_charged o2 b2 i q amt hb.1) i q _ hq
        · exact b2
  · exact h
/-- A request of this tenant: what is let by is taken from the bucket and the window. -/
theorem bud_asked {s : PC} {k : Nat} {g u : Int} (ok : s.Ok) (gt : Gate s) (h : Bud s k g u) (i : Nat) (hi : i < 2) (cost : Int) (c0 : 1 ≤ cost) (c1 : cost ≤ 2000000) :
    ∃ g' u', Bud (s.asked i k cost).2 k g' u' ∧ g' + u' + (if (s.asked i k cost).1 = 5 then cost else 0) ≤ g + u := by
  have hg0 := h.g0
  have hu0 := h.u0
  have hu1 := h.u1
  by_cases hl : s.hasLease i = true
  · have ht := hasLease_til hl
    obtain ⟨hh, he⟩ := gt.hold i hi ht
    have hwu := h.win i hi hh he
    have hlg := h.lev i hi (fun _ => hh)
    have w0 := ok.wn0 i k
    by_cases hc : cost ≤ s.win i k
    · have e : s.asked i k cost = (5, s.setWin i k (s.win i k - cost)) := by
        unfold PC.asked
        rw [if_pos hl, if_pos hc]
      rw [e]
      refine ⟨g, u - cost, ⟨h.g0, h.gr, by omega, ?_, h.lev, fun j hj hjh hje => ?_⟩, by rw [if_pos rfl]; omega⟩
      · show u - cost ≤ s.window
        omega
      · have hj' : s.holder = (j : Int) := hjh
        have ej : j = i := by omega
        subst ej
        show upd s.win j (upd (s.win j) k (s.win j k - cost)) j k ≤ u - cost
        unfold upd
        simp
        omega
    · by_cases hd : s.lev i k < cost - s.win i k
      · have e : s.asked i k cost = (6, s) := by
          unfold PC.asked
          rw [if_pos hl, if_neg hc, if_pos hd]
        rw [e]
        exact ⟨g, u, h, by rw [if_neg (show ¬ ((6 : Int) = 5) by decide)]; omega⟩
      · have hb := reserve_bd (lev := s.lev i k) w0 hc c1 ok.win0 ok.win1
        have hle : reserveOf (s.lev i k) (s.win i k) s.window cost ≤ s.lev i k := by
          unfold reserveOf resN
          split <;> omega
        have e : s.asked i k cost = if (s.secured i k (reserveOf (s.lev i k) (s.win i k) s.window cost)).1 then (5, ((s.secured i k (reserveOf (s.lev i k) (s.win i k) s.window cost)).2.charged i k (reserveOf (s.lev i k) (s.win i k) s.window cost)).setWin i k (reserveOf (s.lev i k) (s.win i k) s.window cost - (cost - s.win i k))) else (7, (s.secured i k (reserveOf (s.lev i k) (s.win i k) s.window cost)).2) := by
          unfold PC.asked
          rw [if_pos hl, if_neg hc, if_neg hd]
        rw [e]
        generalize reserveOf (s.lev i k) (s.win i k) s.window cost = amt at *
        have b2 := bud_secured ok h i k hi hh amt hb.1
        have kp := secured_keeps s i k amt
        have fx := secured_fix s i k amt
        cases hs : (s.secured i k amt).1
        · rw [if_neg (by simp)]
          exact ⟨g, u, b2, by rw [if_neg (show ¬ ((7 : Int) = 5) by decide)]; omega⟩
        · rw [if_pos rfl]
          refine ⟨g - amt, amt - (cost - s.win i k), ⟨by omega, ?_, hb.2.2.1, ?_, fun j hj hsj => ?_, fun j hj hjh hje => ?_⟩, by rw [if_pos rfl]; omega⟩
          · have := b2.gr
            show g - amt ≤ (s.secured i k amt).2.burst k - (s.secured i k amt).2.window
            omega
          · show amt - (cost - s.win i k) ≤ (s.secured i k amt).2.window
            rw [kp.2.1]
            exact hb.2.2.2
          · show ((s.secured i k amt).2.charged i k amt).lev j k ≤ g - amt
            have hsj' : (s.secured i k amt).2.solo = true → (s.secured i k amt).2.holder = (j : Int) := hsj
            by_cases ej : j = i
            · subst ej
              have l2 : (s.secured j k amt).2.lev j k = s.lev j k := by
                unfold PC.secured
                split
                · rfl
                · split
                  · exact charged_other s (1 - j) k amt j k (by omega)
                  · split
                    · rw [(second_keeps (s.charged (1 - j) k amt) j).1]
                      exact charged_other s (1 - j) k amt j k (by omega)
                    · rw [(second_keeps s j).1]
              rw [charged_at, l2]
              unfold chargedLev
              split <;> omega
            · have hso : (s.secured i k amt).2.solo = false := by
                cases hx : (s.secured i k amt).2.solo
                · rfl
                · have := hsj' hx
                  rw [fx.2, hh] at this
                  omega
              obtain ⟨s0, es⟩ := secured_told gt hi ht k amt hs hso
              have hlj := h.lev j hj (fun e => by rw [s0] at e; cases e)
              have ej2 : j = 1 - i := by omega
              rw [charged_other _ i k amt j k (by omega), es, ej2, charged_at]
              rw [ej2] at hlj
              unfold chargedLev
              split <;> omega
          · have hj' : (s.secured i k amt).2.holder = (j : Int) := hjh
            rw [fx.2, hh] at hj'
            have ej : j = i := by omega
            subst ej
            show upd (s.secured j k amt).2.win j (upd ((s.secured j k amt).2.win j) k (amt - (cost - s.win j k))) j k ≤ _
            unfold upd
            simp
  · have e : s.asked i k cost = (4, s) := by
      unfold PC.asked
      rw [if_neg hl]
    rw [e]
    exact ⟨g, u, h, by rw [if_neg (show ¬ ((4 : Int) = 5) by decide)]; omega⟩

/-- A join: who is told has the levels of him who tells. -/
theorem bud_joined {s : PC} {k : Nat} {g u : Int} (gt : Gate s) (h : Bud s k g u) (i : Nat) (hi : i < 2) : Bud (s.joined i).2 k g u := by
  by_cases hl : s.hasLease i = true
  · have ht := hasLease_til hl
    have hh := (gt.hold i hi ht).1
    have hlg := h.lev i hi (fun _ => hh)
    have bu : Bud (s.unaloned i) k g u := ⟨h.g0, h.gr, h.u0, h.u1, h.lev, h.win⟩
    have all : ∀ j : Nat, j < 2 → ((s.unaloned i).copied i).lev j k ≤ g := by
      intro j hj
      show upd s.lev (1 - i) (s.lev i) j k ≤ g
      by_cases e : j = 1 - i
      · rw [e, upd_same]; exact hlg
      · have ej : j = i := by omega
        rw [upd_other _ _ e, ej]; exact hlg
    have bc : Bud ((s.unaloned i).copied i) k g u := ⟨h.g0, h.gr, h.u0, h.u1, fun j hj _ => all j hj, h.win⟩
    unfold PC.joined PC.joinEnd
    rw [if_pos hl]
    split
    · dsimp only
      split
      · exact ⟨h.g0, h.gr, h.u0, h.u1, fun j hj _ => all j hj, h.win⟩
      · exact bc
    · dsimp only
      split
      · exact bc
      · exact bu
  · unfold PC.joined
    rw [if_neg hl]
    exact h

theorem ep_of {s s' : PC} {m : Nat} (h : Ep s m) (h1 : s'.epoch = s.epoch) (h2 : s'.wepoch = s.wepoch) (h3 : s'.holder = s.holder) (h4 : s.holder = -1 → s'.solo = s.solo) : Ep s' (m + 1) := by
  refine ⟨by rw [h1, h2]; exact h.ep, by rw [h2]; exact h.e0, ?_, ?_⟩
  · rw [h2]
    have := h.em
    omega
  · rw [h3]
    intro e
    rw [h4 e]
    exact h.so e
theorem ep_crashed {s : PC} {m : Nat} (h : Ep s m) (j : Nat) : Ep (s.crashed j) (m + 1) := by
  have em := h.em
  refine ⟨fun i hi => ?_, h.e0, by show s.wepoch ≤ _; omega, h.so⟩
  show upd s.epoch j 0 i ≤ s.wepoch
  unfold upd
  split
  · exact h.e0
  · exact h.ep i hi
theorem ep_campaigned {s : PC} {m : Nat} (h : Ep s m) (hm9 : (m : Int) < 9000000000000000000) (i : Nat) (hi : i < 2) : Ep (s.campaigned (i : Int)).2 (m + 1) := by
  have em := h.em
  have e0 := h.e0
  have hwr : wrap64 (s.wepoch + 1) = s.wepoch + 1 := by
    unfold wrap64
    omega
  have hg : Ep (s.granted (i : Int)) (m + 1) := by
    unfold PC.granted
    split
    · exact ⟨h.ep, h.e0, by show s.wepoch ≤ _; omega, h.so⟩
    · refine ⟨fun j hj => ?_, ?_, ?_, fun e => ?_⟩
      · show s.epoch j ≤ wrap64 (s.wepoch + 1)
        have := h.ep j hj
        omega
      · show 0 ≤ wrap64 (s.wepoch + 1)
        omega
      · show wrap64 (s.wepoch + 1) ≤ _
        omega
      · rfl
  have hk : Ep s (m + 1) := ⟨h.ep, h.e0, by omega, h.so⟩
  unfold PC.campaigned
  split
  · split
    · split
      · refine ⟨fun j hj => ?_, hg.e0, hg.em, hg.so⟩
        show upd (s.granted (i : Int)).epoch (i : Int).toNat (s.granted (i : Int)).wepoch j ≤ (s.granted (i : Int)).wepoch
        unfold upd
        split
        · exact Int.le_refl _
        · exact hg.ep j hj
      · exact hg
    · exact hk
  · exact hk

end Go.Proofs.YtpfahgogjeignabDoor

namespace Go.Proofs.YtpfahgogjeignabDoor
open Go.RowKit

/-- What a step lets by of tenant k. -/
def spentBy (s : PC) (k : Nat) (kd x y z : Int) : Int := if kd = 6 ∧ (s.call kd x y z).1.e = 0 ∧ (s.call kd x y z).1.a = 5 ∧ y = (k : Int) then z else 0
/-- So much time goes by with it. -/
def tickBy (s : PC) (kd x y z : Int) : Int := if kd = 1 ∧ (s.call kd x y z).1.e = 0 then x else 0

theorem bud_linked {s : PC} {k : Nat} {g u : Int} (h : Bud s k g u) (x y m : Int) : Bud (s.linked x y m) k g u := ⟨h.g0, h.gr, h.u0, h.u1, h.lev, h.win⟩
theorem bud_started {s : PC} {k : Nat} {g u : Int} (h : Bud s k g u) (i : Nat) : Bud (s.started i) k g u := ⟨h.g0, h.gr, h.u0, h.u1, h.lev, h.win⟩
theorem ep_later {s : PC} {m : Nat} (h : Ep s m) : Ep s (m + 1) := ep_of h rfl rfl rfl (fun _ => rfl)

theorem second_ep (s : PC) (i : Nat) : (s.second i).2.epoch = s.epoch ∧ (s.second i).2.wepoch = s.wepoch ∧ (s.second i).2.holder = s.holder := by
  unfold PC.second
  dsimp only
  split
  · exact ⟨rfl, rfl, rfl⟩
  · split <;> exact ⟨rfl, rfl, rfl⟩
theorem secured_ep (s : PC) (i k : Nat) (amt : Int) : (s.secured i k amt).2.epoch = s.epoch ∧ (s.secured i k amt).2.wepoch = s.wepoch ∧ (s.secured i k amt).2.holder = s.holder := by
  unfold PC.secured
  split
  · exact ⟨rfl, rfl, rfl⟩
  · split
    · exact ⟨rfl, rfl, rfl⟩
    · split
      · exact second_ep (s.charged (1 - i) k amt) i
      · exact second_ep s i
theorem asked_ep (s : PC) (i k : Nat) (cost : Int) : (s.asked i k cost).2.epoch = s.epoch ∧ (s.asked i k cost).2.wepoch = s.wepoch ∧ (s.asked i k cost).2.holder = s.holder ∧ (s.hasLease i = false → (s.asked i k cost).2.solo = s.solo) := by
  have hs := secured_ep s i k (reserveOf (s.lev i k) (s.win i k) s.window cost)
  unfold PC.asked
  split
  · rename_i hl
    have no : s.hasLease i = false → False := fun e => by rw [hl] at e; cases e
    split
    · exact ⟨rfl, rfl, rfl, fun _ => rfl⟩
    · split
      · exact ⟨rfl, rfl, rfl, fun _ => rfl⟩
      · split
        · exact ⟨hs.1, hs.2.1, hs.2.2, fun e => (no e).elim⟩
        · exact ⟨hs.1, hs.2.1, hs.2.2, fun e => (no e).elim⟩
  · exact ⟨rfl, rfl, rfl, fun _ => rfl⟩
theorem joined_ep (s : PC) (i : Nat) : (s.joined i).2.epoch = s.epoch ∧ (s.joined i).2.wepoch = s.wepoch ∧ (s.joined i).2.holder = s.holder ∧ (s.hasLease i = false → (s.joined i).2.solo = s.solo) := by
  unfold PC.joined PC.joinEnd
  split
  · rename_i hl
    have no : s.hasLease i = false → False := fun e => by rw [hl] at e; cases e
    split
    · dsimp only
      split
      · exact ⟨rfl, rfl, rfl, fun e => (no e).elim⟩
      · exact ⟨rfl, rfl, rfl, fun _ => rfl⟩
    · dsimp only
      split <;> exact ⟨rfl, rfl, rfl, fun _ => rfl⟩
  · exact ⟨rfl, rfl, rfl, fun _ => rfl⟩
/-- Where there is no holder nobody has a lease. -/
theorem no_lease {s : PC} (g : Gate s) (h : s.holder = -1) (i : Nat) (hi : i < 2) : s.hasLease i = false := by
  cases hl : s.hasLease i
  · rfl
  · have := (g.hold i hi (hasLease_til hl)).1
    omega

/-- A step: what it lets by is taken from the bucket and the window; time fills the bucket. -/
theorem bud_call {s : PC} {k m : Nat} {g u : Int} (h : Sane s) (ep : Ep s m) (hm9 : (m : Int) < 9000000000000000000) (hk : (k : Int) < s.count) (b : Bud s k g u) (kd x y z : Int) :
    Ep (s.call kd x y z).2 (m + 1) ∧ ∃ g' u', Bud (s.call kd x y z).2 k g' u' ∧ g' + u' + spentBy s k kd x y z ≤ g + u + s.rate k * tickBy s kd x y z := by
  have stay : ∀ s' : PC, Ep s' (m + 1) → Bud s' k g u → kd ≠ 6 → kd ≠ 1 → Ep s' (m + 1) ∧ ∃ g' u', Bud s' k g' u' ∧ g' + u' + spentBy s k kd x y z ≤ g + u + s.rate k * tickBy s kd x y z := by
    intro s' e' b' h6 h1
    refine ⟨e', g, u, b', ?_⟩
    unfold spentBy tickBy
    rw [if_neg (fun e => h6 e.1), if_neg (fun e => h1 e.1), Int.mul_zero]
    omega
  by_cases hkd : kd < 1 ∨ 12 < kd
  · have e : s.call kd x y z = (⟨0, 0, 0, 0, 0⟩, s) := by
      unfold PC.call
      rw [if_neg (by omega), if_neg (by omega), if_neg (by omega), if_neg (by omega), if_neg (by omega), if_neg (by omega), if_neg (by omega), if_neg (by omega), if_neg (by omega), if_neg (by omega), if_neg (by omega), if_neg (by omega)]
    rw [e]
    exact stay s (ep_later ep) b (by omega) (by omega)
  · rcases (by omega : kd = 1 ∨ kd = 2 ∨ kd = 3 ∨ kd = 4 ∨ kd = 5 ∨ kd = 6 ∨ kd = 7 ∨ kd = 8 ∨ kd = 9 ∨ kd = 10 ∨ kd = 11 ∨ kd = 12) with rfl | rfl | rfl | rfl | rfl | rfl | rfl | rfl | rfl | rfl | rfl | rfl
    · have e1 : (s.call 1 x y z).1.e = (s.passR x).1 := rfl
      have e2 : (s.call 1 x y z).2 = (s.passR x).2 := rfl
      unfold spentBy tickBy
      rw [e1, e2, if_neg (fun e => absurd e.1 (by decide))]
      unfold PC.passR
      by_cases hn : x < 0 ∨ 1000000000000 - s.now < x
      · rw [if_pos hn]
        refine ⟨ep_later ep, g, u, b, ?_⟩
        rw [if_neg (fun e => absurd e.2 (show ¬ ((8 : Int) = 0) by decide)), Int.mul_zero]
        omega
      · rw [if_neg hn]
        obtain ⟨b', hle⟩ := bud_passed h.ok b hk x (by omega)
        refine ⟨ep_of ep rfl rfl rfl (fun _ => rfl), _, u, b', ?_⟩
        rw [if_pos ⟨rfl, rfl⟩]
        omega
    · refine stay _ ?_ ?_ (by decide) (by decide)
      · show Ep (s.linkR x y z).2 _
        unfold PC.linkR
        split
        · exact ep_of ep rfl rfl rfl (fun _ => rfl)
        · exact ep_later ep
      · show Bud (s.linkR x y z).2 _ _ _
        unfold PC.linkR
        split
        · exact bud_linked b x y z
        · exact b
    · refine stay _ ?_ ?_ (by decide) (by decide)
      · show Ep (s.crashR x).2 _
        unfold PC.crashR
        split
        · split
          · exact ep_crashed ep _
          · exact ep_later ep
        · exact ep_later ep
      · show Bud (s.crashR x).2 _ _ _
        unfold PC.crashR
        split
        · split
          · exact bud_crashed b _
          · exact b
        · exact b
    · refine stay _ ?_ ?_ (by decide) (by decide)
      · show Ep (s.startR x).2 _
        unfold PC.startR
        split
        · split
          · exact ep_later ep
          · exact ep_of ep rfl rfl rfl (fun _ => rfl)
        · exact ep_later ep
      · show Bud (s.startR x).2 _ _ _
        unfold PC.startR
        split
        · split
          · exact b
          · exact bud_started b _
        · exact b
    · have key : Ep (s.campR x).2 (m + 1) ∧ ∃ u', Bud (s.campR x).2 k g u' ∧ u' ≤ u := by
        unfold PC.campR
        split
        · rename_i hn
          obtain ⟨j, hj, rfl⟩ := nat_of_node hn
          split
          · exact ⟨ep_campaigned ep hm9 j hj, bud_campaigned h.ok h.gate.g b ep hm9 j hj⟩
          · exact ⟨ep_later ep, u, b, Int.le_refl _⟩
        · exact ⟨ep_later ep, u, b, Int.le_refl _⟩
      obtain ⟨k1, u', k2, k3⟩ := key
      refine ⟨k1, g, u', k2, ?_⟩
      unfold spentBy tickBy
      rw [if_neg (fun e => absurd e.1 (by decide)), if_neg (fun e => absurd e.1 (by decide)), Int.mul_zero]
      omega
    · have e1 : (s.call 6 x y z).1.e = (s.askR x y z).1.2 := rfl
      have e3 : (s.call 6 x y z).1.a = (s.askR x y z).1.1 := rfl
      have e2 : (s.call 6 x y z).2 = (s.askR x y z).2 := rfl
      unfold spentBy tickBy
      rw [e1, e2, e3, if_neg (fun e : (6 : Int) = 1 ∧ _ => absurd e.1 (by decide)), Int.mul_zero]
      unfold PC.askR
      by_cases hw : s.wrong x y z = 0
      · rw [if_pos hw]
        obtain ⟨hn, y0, yc, c0, c1⟩ := pwrong_bd hw
        obtain ⟨j, hj, rfl⟩ := nat_of_node hn
        rw [Int.toNat_natCast]
        cases hu : s.up j
        · rw [if_neg (by simp)]
          refine ⟨ep_later ep, g, u, b, ?_⟩
          rw [if_neg (fun e => absurd e.2.1 (show ¬ ((5 : Int) = 0) by decide))]
          omega
        · rw [if_pos rfl]
          have ea := asked_ep s j y.toNat z
          refine ⟨ep_of ep ea.1 ea.2.1 ea.2.2.1 (fun e => ea.2.2.2 (no_lease h.gate.g e j hj)), ?_⟩
          by_cases hy : y = (k : Int)
          · have hyn : y.toNat = k := by omega
            rw [hyn]
            obtain ⟨g', u', b', hle⟩ := bud_asked h.ok h.gate.g b j hj z c0 c1
            refine ⟨g', u', b', ?_⟩
            by_cases h5 : (s.asked j k z).1 = 5
            · rw [if_pos h5] at hle
              rw [if_pos ⟨rfl, rfl, h5, hy⟩]
              omega
            · rw [if_neg h5] at hle
              rw [if_neg (fun e => h5 e.2.2.1)]
              omega
          · refine ⟨g, u, bud_asked_other h.ok h.gate.g b j y.toNat hj (by omega) z c1, ?_⟩
            rw [if_neg (fun e => hy e.2.2.2)]
            omega
      · rw [if_neg hw]
        refine ⟨ep_later ep, g, u, b, ?_⟩
        rw [if_neg (fun e => hw e.2.1)]
        omega
    · refine stay _ ?_ ?_ (by decide) (by decide)
      · show Ep (s.joinR x).2 _
        unfold PC.joinR
        split
        · rename_i hn
          obtain ⟨j, hj, rfl⟩ := nat_of_node hn
          rw [Int.toNat_natCast]
          split
          · have ea := joined_ep s j
            exact ep_of ep ea.1 ea.2.1 ea.2.2.1 (fun e => ea.2.2.2 (no_lease h.gate.g e j hj))
          · exact ep_later ep
        · exact ep_later ep
      · show Bud (s.joinR x).2 _ _ _
        unfold PC.joinR
        split
        · rename_i hn
          obtain ⟨j, hj, rfl⟩ := nat_of_node hn
          rw [Int.toNat_natCast]
          split
          · exact bud_joined h.gate.g b j hj
          · exact b
        · exact b
    · exact stay _ (ep_later ep) b (by decide) (by decide)
    · exact stay _ (ep_later ep) b (by decide) (by decide)
    · exact stay _ (ep_later ep) b (by decide) (by decide)
    · exact stay _ (ep_later ep) b (by decide) (by decide)
    · exact stay _ (ep_later ep) b (by decide) (by decide)

end Go.Proofs.YtpfahgogjeignabDoor
