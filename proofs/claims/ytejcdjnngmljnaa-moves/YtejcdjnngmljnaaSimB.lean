/-
  Both stay alike where a request is decided: plain reckoning.
-/
import Derived.Test.YtejcdjnngmljnaaSimA
import Derived.Test.YtejcdjnngmljnaaRefL
set_option linter.unusedVariables false
set_option linter.unusedSimpArgs false
namespace Go.Proofs.Ytejcdjnngmljnaa
open Go.RowKit

theorem arrives_eq1 {s : PC} {r : RS} (h : Sim s r) (i : Nat) (hi : i < 2) : s.arrives i (1 - i) = r.arrives i (1 - i) := by
  unfold PC.arrives RS.arrives
  rw [h.link _ (by omega), h.up _ (by omega)]
theorem answered_eq1 {s : PC} {r : RS} (h : Sim s r) (i : Nat) (hi : i < 2) : s.answered i (1 - i) = r.answered i (1 - i) := by
  unfold PC.answered RS.answered
  rw [arrives_eq1 h i hi, h.link _ (by omega)]
theorem leased_eq {s : PC} {r : RS} (h : Sim s r) (i : Nat) (hi : i < 2) : s.hasLease i = r.leased i := by
  unfold PC.hasLease RS.leased
  rw [h.up i hi, h.now, h.til i hi]
theorem wrong_eq {s : PC} {r : RS} (h : Sim s r) (i k cost : Int) : s.wrong i k cost = r.wrong i k cost := by
  unfold PC.wrong RS.wrong hasTenantB
  rw [h.count]
  by_cases hk : 0 ≤ k ∧ k < (r.n : Int)
  · rw [if_pos hk]
    have : (decide (0 ≤ k) && decide (k < (r.n : Int))) = true := by simp [hk.1, hk.2]
    first | rw [if_pos this] | simp [hk.1, hk.2]
  · rw [if_neg hk]
    have : ¬ (decide (0 ≤ k) && decide (k < (r.n : Int))) = true := by simpa using hk
    first | rw [if_neg this] | simp_all

theorem ChOk_snoc {room lo now amt : Int} {put : Bool} {l : List Chg} (h : ChOk room lo now l) (a0 : 0 ≤ amt) (a1 : amt ≤ 3000000) (hp : put = true → amt ≤ room) : ChOk room lo now (l ++ [⟨now, amt, put⟩]) := by
  induction l generalizing lo with
  | nil => exact ⟨h, a0, a1, hp, Int.le_refl _⟩
  | cons c q ih => exact ⟨h.1, h.2.1, h.2.2.1, h.2.2.2.1, ih h.2.2.2.2⟩
theorem did_ok {r : RS} (ok : r.Ok) (i k : Nat) (amt : Int) (put : Bool) (a0 : 0 ≤ amt) (a1 : amt ≤ 3000000) (hp : put = true → amt ≤ r.room k) : (r.did i k amt put).Ok := by
  refine ⟨ok.lease0, ok.lease1, ok.win0, ok.win1, ok.n0, ok.n1, ok.rate0, ok.rate1, ok.room0, ok.room1, ok.now0, ok.now1, ?_⟩
  intro j q hj hq
  have hq' : q < r.n := hq
  by_cases e : j = i ∧ q = k
  · obtain ⟨rfl, rfl⟩ := e
    show ChOk (r.room q) 0 r.now (upd r.past j (upd (r.past j) q (r.past j q ++ [⟨r.now, amt, put⟩])) j q)
    rw [upd2_same]
    exact ChOk_snoc (ok.chs j q hj hq') a0 a1 hp
  · show ChOk (r.room q) 0 r.now (upd r.past i (upd (r.past i) k (r.past i k ++ [⟨r.now, amt, put⟩])) j q)
    rw [upd2_other _ _ e]
    exact ok.chs j q hj hq'
/-- What a level is behind a change. -/
def didLev (l amt : Int) (put : Bool) : Int := if put then amt else chargedLev l amt
theorem level_did {r : RS} (ok : r.Ok) (i k : Nat) (hi : i < 2) (hk : k < r.n) (amt : Int) (put : Bool) (a0 : 0 ≤ amt) (hp : put = true → amt ≤ r.room k) : (r.did i k amt put).level i k = didLev (r.level i k) amt put := by
  have hb := level_bd ok i k hi hk
  show r.grown k (r.lvTo k (upd r.past i (upd (r.past i) k (r.past i k ++ [⟨r.now, amt, put⟩])) i k)).1 (r.now - (r.lvTo k (upd r.past i (upd (r.past i) k (r.past i k ++ [⟨r.now, amt, put⟩])) i k)).2) = _
  rw [upd2_same, lvTo_snoc]
  show r.grown k (if put then amt else if r.level i k < amt then 0 else r.level i k - amt) (r.now - r.now) = _
  have e : didLev (r.level i k) amt put = if put then amt else if r.level i k < amt then 0 else r.level i k - amt := rfl
  rw [e, Int.sub_self]
  generalize r.level i k = l at *
  unfold RS.grown
  rw [Int.mul_zero, Int.add_zero]
  refine if_neg ?_
  cases put
  · simp only [Bool.false_eq_true, if_false]
    split <;> omega
  · simp only [if_true]
    have := hp rfl
    omega
theorem level_did_other (r : RS) {i k j q : Nat} (amt : Int) (put : Bool) (h : ¬ (j = i ∧ q = k)) : (r.did i k amt put).level j q = r.level j q := by
  show r.grown q (r.lvTo q (upd r.past i (upd (r.past i) k (r.past i k ++ [⟨r.now, amt, put⟩])) j q)).1 (r.now - (r.lvTo q (upd r.past i (upd (r.past i) k (r.past i k ++ [⟨r.now, amt, put⟩])) j q)).2) = _
  rw [upd2_other _ _ h]
  rfl
theorem sim_charged {s : PC} {r : RS} (h : Sim s r) (i k : Nat) (hi : i < 2) (hk : k < r.n) (amt : Int) (a0 : 0 ≤ amt) (a1 : amt ≤ 3000000) : Sim (s.charged i k amt) (r.did i k amt false) := by
  refine ⟨charged_ok h.ok i k amt a0, did_ok h.rok i k amt false a0 a1 (fun e => by cases e), h.lease, h.window, h.count, h.now, h.rate, h.room, h.link, h.up, h.epoch, h.til, h.alone, ?_, h.win, h.holder, h.wepoch, h.wtil, h.solo⟩
  intro j q hj hq
  show upd s.lev i (upd (s.lev i) k (chargedLev (s.lev i k) amt)) j q = _
  by_cases e : j = i ∧ q = k
  · obtain ⟨rfl, rfl⟩ := e
    rw [upd2_same, level_did h.rok j q hj hq amt false a0 (fun e => by cases e), h.lev j q hj hq]
    rfl
  · rw [upd2_other _ _ e, level_did_other r amt false e]
    exact h.lev j q hj hq
theorem sim_soloed {s : PC} {r : RS} (h : Sim s r) : Sim s.soloed r.soloed :=
  ⟨soloed_ok h.ok, rok_of h.rok rfl rfl rfl rfl rfl rfl rfl, h.lease, h.window, h.count, h.now, h.rate, h.room, h.link, h.up, h.epoch, h.til, h.alone, h.lev, h.win, h.holder, h.wepoch, h.wtil, rfl⟩
theorem sim_aloned {s : PC} {r : RS} (h : Sim s r) (i : Nat) : Sim (s.aloned i) (r.aloned i) := by
  refine ⟨aloned_ok h.ok i, rok_of h.rok rfl rfl rfl rfl rfl rfl rfl, h.lease, h.window, h.count, h.now, h.rate, h.room, h.link, ?_, ?_, ?_, upd_eq 2 h.alone rfl, h.lev, ?_, h.holder, h.wepoch, h.wtil, h.solo⟩
  · show ∀ j, j < 2 → s.up j = upd r.up i (r.up i) j
    rw [upd_self]; exact h.up
  · show ∀ j, j < 2 → s.epoch j = upd r.sep i (r.sep i) j
    rw [upd_self]; exact h.epoch
  · show ∀ j, j < 2 → s.til j = upd r.stil i (r.stil i) j
    rw [upd_self]; exact h.til
  · show ∀ j k, j < 2 → k < r.n → s.win j k = upd r.win i (r.win i) j k
    rw [upd_self]; exact h.win
theorem sim_second {s : PC} {r : RS} (h : Sim s r) (i : Nat) (hi : i < 2) : (s.second i).1 = (r.second i).1 ∧ Sim (s.second i).2 (r.second i).2 := by
  unfold PC.second RS.second
  rw [arrives_eq h _ hi, answered_eq h _ hi]
  refine ⟨rfl, ?_⟩
  cases r.answered i 2
  · cases r.arrives i 2
    · exact h
    · exact sim_soloed h
  · exact sim_aloned (sim_soloed h) i
theorem sim_secured {s : PC} {r : RS} (h : Sim s r) (i k : Nat) (hi : i < 2) (hk : k < r.n) (amt : Int) (a0 : 0 ≤ amt) (a1 : amt ≤ 3000000) : (s.secured i k amt).1 = (r.secured i k amt).1 ∧ Sim (s.secured i k amt).2 (r.secured i k amt).2 := by
  unfold PC.secured RS.secured
  rw [h.alone i hi, answered_eq1 h i hi, arrives_eq1 h i hi]
  cases r.alone i
  · cases r.answered i (1 - i)
    · cases r.arrives i (1 - i)
      · exact sim_second h i hi
      · exact sim_second (sim_charged h (1 - i) k (by omega) hk amt a0 a1) i hi
    · exact ⟨rfl, sim_charged h (1 - i) k (by omega) hk amt a0 a1⟩
  · exact ⟨rfl, h⟩
theorem sim_setWin {s : PC} {r : RS} (h : Sim s r) (i k : Nat) (v : Int) (v0 : 0 ≤ v) (v1 : v ≤ s.window) (hi : i < 2) (hk : k < r.n) : Sim (s.setWin i k v) (r.setWin i k v) := by
  refine ⟨setWin_ok h.ok i k v v0 v1, rok_of h.rok rfl rfl rfl rfl rfl rfl rfl, h.lease, h.window, h.count, h.now, h.rate, h.room, h.link, h.up, h.epoch, h.til, h.alone, h.lev, ?_, h.holder, h.wepoch, h.wtil, h.solo⟩
  intro j q hj hq
  show upd s.win i (upd (s.win i) k v) j q = upd r.win i (upd (r.win i) k v) j q
  unfold upd
  split
  · dsimp only
    split
    · rfl
    · exact h.win i q hi hq
  · exact h.win j q hj hq
theorem sim_asked {s : PC} {r : RS} (h : Sim s r) (i k : Nat) (hi : i < 2) (hk : k < r.n) (cost : Int) (c0 : 1 ≤ cost) (c1 : cost ≤ 2000000) : (s.asked i k cost).1 = (r.asked i k cost).1 ∧ Sim (s.asked i k cost).2 (r.asked i k cost).2 := by
  have w0 := h.ok.wn0 i k
  have w1 := h.ok.wn1 i k
  have d0 := h.ok.win0
  have d1 := h.ok.win1
  unfold PC.asked RS.asked
  rw [leased_eq h i hi, ← h.win i k hi hk, ← h.lev i k hi hk, ← h.window]
  cases r.leased i
  · exact ⟨rfl, h⟩
  · simp only [if_true]
    by_cases hc : cost ≤ s.win i k
    · rw [if_pos hc, if_pos hc]
      exact ⟨rfl, sim_setWin h i k _ (by omega) (by omega) hi hk⟩
    · rw [if_neg hc, if_neg hc]
      by_cases hd : s.lev i k < cost - s.win i k
      · rw [if_pos hd, if_pos hd]
        exact ⟨rfl, h⟩
      · rw [if_neg hd, if_neg hd]
        have hb := reserve_bd (lev := s.lev i k) w0 hc c1 d0 d1
        generalize reserveOf (s.lev i k) (s.win i k) s.window cost = amt at *
        obtain ⟨e1, e2⟩ := sim_secured h i k hi hk amt hb.1 hb.2.1
        have en := secured_n r i k amt
        have ew := (secured_keeps s i k amt).2.1
        rw [e1]
        cases (r.secured i k amt).1
        · exact ⟨rfl, e2⟩
        · refine ⟨rfl, ?_⟩
          simp only [if_true]
          refine sim_setWin (sim_charged e2 i k hi (by rw [en]; exact hk) amt hb.1 hb.2.1) i k _ hb.2.2.1 ?_ hi (by show k < (r.secured i k amt).2.n; rw [en]; exact hk)
          show _ ≤ (s.secured i k amt).2.window
          rw [ew]
          exact hb.2.2.2
end Go.Proofs.Ytejcdjnngmljnaa
