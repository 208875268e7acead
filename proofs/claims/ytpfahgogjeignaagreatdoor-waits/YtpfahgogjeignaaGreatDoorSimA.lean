/-
  The program's cluster and the document's stay alike: plain reckoning.
-/
import Derived.Test.YtpfahgogjeignaaGreatDoorLawD
import Derived.Test.YtpfahgogjeignaaGreatDoorProD
import Derived.Test.YtpfahgogjeignaaGreatDoorProE
import Derived.Test.YtpfahgogjeignaaGreatDoorRefE
import Derived.Test.YtpfahgogjeignaaGreatDoorRefL
import Derived.Test.YtpfahgogjeignaaGreatDoorRefN
import Derived.Test.YtpfahgogjeignaaGreatDoorRefO
set_option linter.unusedVariables false
set_option linter.unusedSimpArgs false
namespace Go.Proofs.YtpfahgogjeignaaGreatDoor
open Go.RowKit

theorem grown_eq {s : PC} {r : RS} (h : Sim s r) (k : Nat) (hk : k < r.n) (l t : Int) : s.grown k l t = r.grown k l t := by
  unfold PC.grown RS.grown
  rw [h.room k hk, h.rate k hk]

theorem rgrown_add (r : RS) (k : Nat) (l a b : Int) (r0 : 0 ≤ r.rate k) (b0 : 0 ≤ b) : r.grown k (r.grown k l a) b = r.grown k l (a + b) := by
  unfold RS.grown
  have hb := Int.mul_nonneg r0 b0
  rw [Int.mul_add]
  generalize r.rate k * a = x
  generalize r.rate k * b = y at *
  by_cases h1 : r.room k < l + x
  · rw [if_pos h1]
    by_cases h2 : r.room k < r.room k + y
    · rw [if_pos h2, if_pos (by omega)]
    · rw [if_neg h2, if_pos (by omega)]; omega
  · rw [if_neg h1]
    by_cases h2 : r.room k < l + x + y
    · rw [if_pos h2, if_pos (by omega)]
    · rw [if_neg h2, if_neg (by omega)]; omega

theorem ChOk_later {room lo now now' : Int} {l : List Chg} (h : ChOk room lo now l) (hn : now ≤ now') : ChOk room lo now' l := by
  induction l generalizing lo with
  | nil => exact Int.le_trans h hn
  | cons c q ih => exact ⟨h.1, h.2.1, h.2.2.1, h.2.2.2.1, ih h.2.2.2.2⟩

theorem level_passed {s : PC} {r : RS} (h : Sim s r) (t : Int) (t0 : 0 ≤ t) (i k : Nat) : (r.passed t).level i k = r.grown k (r.level i k) t := by
  show r.grown k (r.lvTo k (r.past i k)).1 (r.now + t - (r.lvTo k (r.past i k)).2) = r.grown k (r.grown k (r.lvTo k (r.past i k)).1 (r.now - (r.lvTo k (r.past i k)).2)) t
  rw [rgrown_add r k _ _ _ (h.rok.rate0 k) t0]
  congr 1
  omega

theorem sim_passed {s : PC} {r : RS} (h : Sim s r) (t : Int) (t0 : 0 ≤ t) (t1 : t ≤ 1000000000000 - s.now) : Sim (s.passed t) (r.passed t) := by
  have hn := h.now
  have n0 := h.rok.now0
  have rok : (r.passed t).Ok := by
    refine ⟨h.rok.lease0, h.rok.lease1, h.rok.win0, h.rok.win1, h.rok.n0, h.rok.n1, h.rok.rate0, h.rok.rate1, h.rok.room0, h.rok.room1, ?_, ?_, ?_⟩
    · show 0 ≤ r.now + t; omega
    · show r.now + t ≤ 1000000000000; omega
    · intro i k hi hk
      exact ChOk_later (h.rok.chs i k hi hk) (by show r.now ≤ r.now + t; omega)
  refine ⟨passed_ok h.ok t t0 t1, rok, h.lease, h.window, h.count, ?_, h.rate, h.room, h.link, h.up, h.epoch, h.til, h.alone, ?_, h.win, h.holder, h.wepoch, h.wtil, h.solo⟩
  · show s.now + t = r.now + t; rw [hn]
  · intro i k hi hk
    rw [level_passed h t t0 i k, ← h.lev i k hi hk, ← grown_eq h k hk]
    show (if _ then _ else _ : Int) = _
    rw [if_pos ⟨by rw [h.count]; have : k < r.n := hk; omega, hi⟩]

theorem ok_of {s s' : PC} (ok : s.Ok) (h1 : s'.lease = s.lease) (h2 : s'.window = s.window) (h3 : s'.count = s.count) (h4 : s'.rate = s.rate) (h5 : s'.burst = s.burst) (h6 : s'.now = s.now) (h7 : s'.lev = s.lev) (h8 : ∀ i k, s'.win i k = s.win i k ∨ s'.win i k = 0) : s'.Ok := by
  refine ⟨?_, ?_, ?_, ?_, ?_, ?_, ?_, ?_, ?_, ?_, ?_, ?_, ?_, ?_, ?_, ?_, ?_⟩
  · rw [h1]; exact ok.lease0
  · rw [h1]; exact ok.lease1
  · rw [h2]; exact ok.win0
  · rw [h2]; exact ok.win1
  · rw [h3]; exact ok.count0
  · rw [h3]; exact ok.count1
  · rw [h4]; exact ok.rate0
  · rw [h4]; exact ok.rate1
  · rw [h5]; exact ok.burst0
  · rw [h5]; exact ok.burst1
  · rw [h2, h3, h5]; exact ok.fits
  · rw [h6]; exact ok.now0
  · rw [h6]; exact ok.now1
  · rw [h7]; exact ok.lev0
  · rw [h7]; exact ok.lev1
  · intro i k
    have := ok.wn0 i k
    rcases h8 i k with e | e <;> rw [e] <;> omega
  · intro i k
    have := ok.wn1 i k
    have := ok.win0
    rw [h2]
    rcases h8 i k with e | e <;> rw [e] <;> omega
theorem rok_of {r r' : RS} (ok : r.Ok) (h1 : r'.lease = r.lease) (h2 : r'.window = r.window) (h3 : r'.n = r.n) (h4 : r'.rate = r.rate) (h5 : r'.room = r.room) (h6 : r'.now = r.now) (h7 : r'.past = r.past) : r'.Ok := by
  refine ⟨?_, ?_, ?_, ?_, ?_, ?_, ?_, ?_, ?_, ?_, ?_, ?_, ?_⟩
  · rw [h1]; exact ok.lease0
  · rw [h1]; exact ok.lease1
  · rw [h2]; exact ok.win0
  · rw [h2]; exact ok.win1
  · rw [h3]; exact ok.n0
  · rw [h3]; exact ok.n1
  · rw [h4]; exact ok.rate0
  · rw [h4]; exact ok.rate1
  · rw [h5]; exact ok.room0
  · rw [h5]; exact ok.room1
  · rw [h6]; exact ok.now0
  · rw [h6]; exact ok.now1
  · rw [h3, h5, h6, h7]; exact ok.chs

theorem upd_eq {α : Type} {f g : Nat → α} {i : Nat} {x y : α} (n : Nat) (h : ∀ j, j < n → f j = g j) (e : x = y) : ∀ j, j < n → upd f i x j = upd g i y j := by
  intro j hj
  unfold upd
  split
  · exact e
  · exact h j hj

theorem sim_linked {s : PC} {r : RS} (h : Sim s r) (a c m : Int) : Sim (s.linked a c m) (r.linked a c m) :=
  ⟨ok_of h.ok rfl rfl rfl rfl rfl rfl rfl (fun _ _ => .inl rfl), rok_of h.rok rfl rfl rfl rfl rfl rfl rfl, h.lease, h.window, h.count, h.now, h.rate, h.room, upd_eq 3 h.link rfl, h.up, h.epoch, h.til, h.alone, h.lev, h.win, h.holder, h.wepoch, h.wtil, h.solo⟩
theorem upd_self {α : Type} (f : Nat → α) (i : Nat) : upd f i (f i) = f := by
  funext j
  unfold upd
  split
  · rename_i h; rw [h]
  · rfl
theorem sim_started {s : PC} {r : RS} (h : Sim s r) (i : Nat) : Sim (s.started i) (r.started i) := by
  refine ⟨ok_of h.ok rfl rfl rfl rfl rfl rfl rfl (fun _ _ => .inl rfl), rok_of h.rok rfl rfl rfl rfl rfl rfl rfl, h.lease, h.window, h.count, h.now, h.rate, h.room, h.link, upd_eq 2 h.up rfl, ?_, ?_, ?_, h.lev, ?_, h.holder, h.wepoch, h.wtil, h.solo⟩
  · show ∀ j, j < 2 → s.epoch j = upd r.sep i (r.sep i) j
    rw [upd_self]; exact h.epoch
  · show ∀ j, j < 2 → s.til j = upd r.stil i (r.stil i) j
    rw [upd_self]; exact h.til
  · show ∀ j, j < 2 → s.alone j = upd r.alone i (r.alone i) j
    rw [upd_self]; exact h.alone
  · show ∀ j k, j < 2 → k < r.n → s.win j k = upd r.win i (r.win i) j k
    rw [upd_self]; exact h.win
theorem upd2_eq {f g : Nat → Nat → Int} {i n : Nat} {x y : Nat → Int} (h : ∀ j k, j < 2 → k < n → f j k = g j k) (e : ∀ k, k < n → x k = y k) : ∀ j k, j < 2 → k < n → upd f i x j k = upd g i y j k := by
  intro j k hj hk
  unfold upd
  split
  · exact e k hk
  · exact h j k hj hk
theorem crashed_win (s : PC) (i : Nat) : ∀ j k, (s.crashed i).win j k = s.win j k ∨ (s.crashed i).win j k = 0 := by
  intro j k
  show upd s.win i (fun _ => 0) j k = s.win j k ∨ upd s.win i (fun _ => 0) j k = 0
  unfold upd
  split
  · exact .inr rfl
  · exact .inl rfl
theorem took_win (s : PC) (i : Nat) : ∀ j k, (s.took i).win j k = s.win j k ∨ (s.took i).win j k = 0 := by
  intro j k
  show (if s.epoch i = s.wepoch then s.win else upd s.win i (fun _ => 0)) j k = s.win j k ∨ (if s.epoch i = s.wepoch then s.win else upd s.win i (fun _ => 0)) j k = 0
  unfold upd
  split
  · exact .inl rfl
  · dsimp only
    split
    · exact .inr rfl
    · exact .inl rfl
theorem sim_crashed {s : PC} {r : RS} (h : Sim s r) (i : Nat) : Sim (s.crashed i) (r.crashed i) :=
  ⟨ok_of h.ok rfl rfl rfl rfl rfl rfl rfl (crashed_win s i), rok_of h.rok rfl rfl rfl rfl rfl rfl rfl, h.lease, h.window, h.count, h.now, h.rate, h.room, h.link, upd_eq 2 h.up rfl, upd_eq 2 h.epoch rfl, upd_eq 2 h.til rfl, upd_eq 2 h.alone rfl, h.lev, upd2_eq h.win (fun _ _ => rfl), h.holder, h.wepoch, h.wtil, h.solo⟩

theorem arrives_eq {s : PC} {r : RS} (h : Sim s r) (i : Nat) (hi : i < 2) : s.arrives i 2 = r.arrives i 2 := by
  unfold PC.arrives RS.arrives
  rw [h.link _ (by omega)]
  rfl
theorem answered_eq {s : PC} {r : RS} (h : Sim s r) (i : Nat) (hi : i < 2) : s.answered i 2 = r.answered i 2 := by
  unfold PC.answered RS.answered
  rw [arrives_eq h i hi, h.link _ (by omega)]
theorem grants_eq {s : PC} {r : RS} (h : Sim s r) (i : Int) : s.mayLead i = r.grants i := by
  unfold PC.mayLead RS.grants
  rw [h.holder, h.wtil, h.now, h.solo]
theorem sim_granted {s : PC} {r : RS} (h : Sim s r) (i : Int) : Sim (s.granted i) (r.granted i) := by
  unfold PC.granted RS.granted
  have e : s.now + s.lease = r.now + r.lease := by rw [h.now, h.lease]
  by_cases hh : s.holder = i
  · rw [if_pos hh, if_pos (by rw [← h.holder]; exact hh)]
    exact ⟨ok_of h.ok rfl rfl rfl rfl rfl rfl rfl (fun _ _ => .inl rfl), rok_of h.rok rfl rfl rfl rfl rfl rfl rfl, h.lease, h.window, h.count, h.now, h.rate, h.room, h.link, h.up, h.epoch, h.til, h.alone, h.lev, h.win, h.holder, h.wepoch, e, h.solo⟩
  · rw [if_neg hh, if_neg (by rw [← h.holder]; exact hh)]
    exact ⟨ok_of h.ok rfl rfl rfl rfl rfl rfl rfl (fun _ _ => .inl rfl), rok_of h.rok rfl rfl rfl rfl rfl rfl rfl, h.lease, h.window, h.count, h.now, h.rate, h.room, h.link, h.up, h.epoch, h.til, h.alone, h.lev, h.win, rfl, by show wrap64 _ = wrap64 _; rw [h.wepoch], e, rfl⟩
theorem sim_took {s : PC} {r : RS} (h : Sim s r) (i : Nat) (hi : i < 2) : Sim (s.took i) (r.took i) := by
  refine ⟨ok_of h.ok rfl rfl rfl rfl rfl rfl rfl (took_win s i), rok_of h.rok rfl rfl rfl rfl rfl rfl rfl, h.lease, h.window, h.count, h.now, h.rate, h.room, h.link, ?_, upd_eq 2 h.epoch h.wepoch, upd_eq 2 h.til h.wtil, upd_eq 2 h.alone h.solo, h.lev, ?_, h.holder, h.wepoch, h.wtil, h.solo⟩
  · show ∀ j, j < 2 → s.up j = upd r.up i (r.up i) j
    rw [upd_self]; exact h.up
  · intro j k hj hk
    show (if s.epoch i = s.wepoch then s.win else upd s.win i (fun _ => 0)) j k = upd r.win i (if r.sep i = r.epoch then r.win i else fun _ => 0) j k
    rw [h.epoch i hi, h.wepoch]
    by_cases e : r.sep i = r.epoch
    · rw [if_pos e, if_pos e, upd_self]; exact h.win j k hj hk
    · rw [if_neg e, if_neg e]; exact upd2_eq h.win (fun _ _ => rfl) j k hj hk
theorem sim_campaigned {s : PC} {r : RS} (h : Sim s r) (i : Int) (i0 : 0 ≤ i) (i2 : i < 2) : (s.campaigned i).1 = (r.campaigned i).1 ∧ Sim (s.campaigned i).2 (r.campaigned i).2 := by
  unfold PC.campaigned RS.campaigned
  have hi : i.toNat < 2 := by omega
  rw [arrives_eq h _ hi, answered_eq h _ hi, grants_eq h]
  cases r.arrives i.toNat 2
  · exact ⟨rfl, h⟩
  · cases r.grants i
    · exact ⟨rfl, h⟩
    · cases r.answered i.toNat 2
      · exact ⟨rfl, sim_granted h i⟩
      · exact ⟨rfl, sim_took (sim_granted h i) _ hi⟩

end Go.Proofs.YtpfahgogjeignaaGreatDoor

namespace Go.Proofs.YtpfahgogjeignaaGreatDoor
open Go.RowKit

theorem arrives_eq1 {s : PC} {r : RS} (h : Sim s r) (i : Nat) (hi : i < 2) : s.arrives i (1 - i) = r.arrives i (1 - i) := by
  unfold PC.arrives RS.arrives
  rw [h.link _ (by omega), h.up _ (by omega)]
theorem answered_eq1 {s : PC} {r : RS} (h : Sim s r) (i : Nat) (hi : i < 2) : s.answered i (1 - i) = r.answered i (1 - i) := by
  unfold PC.answered RS.answered
  rw [arrives_eq1 h i hi, h.link _ (by omega)]
theorem leased_eq {s : PC} {r : RS} (h : Sim s r) (i : Nat) (hi : i < 2) : s.hasLease i = r.leased i := by
  unfold PC.hasLease RS.leased
  rw [h.up i hi, h.now, h.til i hi]
theorem wrong_eq {s : PC} {r : RS} (h : Sim s r) (i k cost : Int) : s.wrong i k cost = r.wrong i k cost := by
  unfold PC.wrong RS.wrong hasTenantB
  rw [h.count]
  by_cases hk : 0 ≤ k ∧ k < (r.n : Int)
  · rw [if_pos hk]
    have : (decide (0 ≤ k) && decide (k < (r.n : Int))) = true := by simp [hk.1, hk.2]
    first | rw [if_pos this] | simp [hk.1, hk.2]
  · rw [if_neg hk]
    have : ¬ (decide (0 ≤ k) && decide (k < (r.n : Int))) = true := by simpa using hk
    first | rw [if_neg this] | simp_all

theorem sim_charged {s : PC} {r : RS} (h : Sim s r) (i k : Nat) (hi : i < 2) (hk : k < r.n) (amt : Int) (a0 : 0 ≤ amt) (a1 : amt ≤ 3000000) : Sim (s.charged i k amt) (r.did i k amt false) := by
  refine ⟨charged_ok h.ok i k amt a0, did_ok h.rok i k amt false a0 a1 (fun e => by cases e), h.lease, h.window, h.count, h.now, h.rate, h.room, h.link, h.up, h.epoch, h.til, h.alone, ?_, h.win, h.holder, h.wepoch, h.wtil, h.solo⟩
  intro j q hj hq
  show upd s.lev i (upd (s.lev i) k (chargedLev (s.lev i k) amt)) j q = _
  by_cases e : j = i ∧ q = k
  · obtain ⟨rfl, rfl⟩ := e
    rw [upd2_same, level_did h.rok j q hj hq amt false a0 (fun e => by cases e), h.lev j q hj hq]
    rfl
  · rw [upd2_other _ _ e, level_did_other r amt false e]
    exact h.lev j q hj hq
theorem sim_soloed {s : PC} {r : RS} (h : Sim s r) : Sim s.soloed r.soloed :=
  ⟨soloed_ok h.ok, rok_of h.rok rfl rfl rfl rfl rfl rfl rfl, h.lease, h.window, h.count, h.now, h.rate, h.room, h.link, h.up, h.epoch, h.til, h.alone, h.lev, h.win, h.holder, h.wepoch, h.wtil, rfl⟩
theorem sim_aloned {s : PC} {r : RS} (h : Sim s r) (i : Nat) : Sim (s.aloned i) (r.aloned i) := by
  refine ⟨aloned_ok h.ok i, rok_of h.rok rfl rfl rfl rfl rfl rfl rfl, h.lease, h.window, h.count, h.now, h.rate, h.room, h.link, ?_, ?_, ?_, upd_eq 2 h.alone rfl, h.lev, ?_, h.holder, h.wepoch, h.wtil, h.solo⟩
  · show ∀ j, j < 2 → s.up j = upd r.up i (r.up i) j
    rw [upd_self]; exact h.up
  · show ∀ j, j < 2 → s.epoch j = upd r.sep i (r.sep i) j
    rw [upd_self]; exact h.epoch
  · show ∀ j, j < 2 → s.til j = upd r.stil i (r.stil i) j
    rw [upd_self]; exact h.til
  · show ∀ j k, j < 2 → k < r.n → s.win j k = upd r.win i (r.win i) j k
    rw [upd_self]; exact h.win
theorem sim_second {s : PC} {r : RS} (h : Sim s r) (i : Nat) (hi : i < 2) : (s.second i).1 = (r.second i).1 ∧ Sim (s.second i).2 (r.second i).2 := by
  unfold PC.second RS.second
  rw [arrives_eq h _ hi, answered_eq h _ hi]
  refine ⟨rfl, ?_⟩
  cases r.answered i 2
  · cases r.arrives i 2
    · exact h
    · exact sim_soloed h
  · exact sim_aloned (sim_soloed h) i
theorem sim_secured {s : PC} {r : RS} (h : Sim s r) (i k : Nat) (hi : i < 2) (hk : k < r.n) (amt : Int) (a0 : 0 ≤ amt) (a1 : amt ≤ 3000000) : (s.secured i k amt).1 = (r.secured i k amt).1 ∧ Sim (s.secured i k amt).2 (r.secured i k amt).2 := by
  unfold PC.secured RS.secured
  rw [h.alone i hi, answered_eq1 h i hi, arrives_eq1 h i hi]
  cases r.alone i
  · cases r.answered i (1 - i)
    · cases r.arrives i (1 - i)
      · exact sim_second h i hi
      · exact sim_second (sim_charged h (1 - i) k (by omega) hk amt a0 a1) i hi
    · exact ⟨rfl, sim_charged h (1 - i) k (by omega) hk amt a0 a1⟩
  · exact ⟨rfl, h⟩
theorem sim_setWin {s : PC} {r : RS} (h : Sim s r) (i k : Nat) (v : Int) (v0 : 0 ≤ v) (v1 : v ≤ s.window) (hi : i < 2) (hk : k < r.n) : Sim (s.setWin i k v) (r.setWin i k v) := by
  refine ⟨setWin_ok h.ok i k v v0 v1, rok_of h.rok rfl rfl rfl rfl rfl rfl rfl, h.lease, h.window, h.count, h.now, h.rate, h.room, h.link, h.up, h.epoch, h.til, h.alone, h.lev, ?_, h.holder, h.wepoch, h.wtil, h.solo⟩
  intro j q hj hq
  show upd s.win i (upd (s.win i) k v) j q = upd r.win i (upd (r.win i) k v) j q
  unfold upd
  split
  · dsimp only
    split
    · rfl
    · exact h.win i q hi hq
  · exact h.win j q hj hq
theorem sim_asked {s : PC} {r : RS} (h : Sim s r) (i k : Nat) (hi : i < 2) (hk : k < r.n) (cost : Int) (c0 : 1 ≤ cost) (c1 : cost ≤ 2000000) : (s.asked i k cost).1 = (r.asked i k cost).1 ∧ Sim (s.asked i k cost).2 (r.asked i k cost).2 := by
  have w0 := h.ok.wn0 i k
  have w1 := h.ok.wn1 i k
  have d0 := h.ok.win0
  have d1 := h.ok.win1
  unfold PC.asked RS.asked
  rw [leased_eq h i hi, ← h.win i k hi hk, ← h.lev i k hi hk, ← h.window]
  cases r.leased i
  · exact ⟨rfl, h⟩
  · simp only [if_true]
    by_cases hc : cost ≤ s.win i k
    · rw [if_pos hc, if_pos hc]
      exact ⟨rfl, sim_setWin h i k _ (by omega) (by omega) hi hk⟩
    · rw [if_neg hc, if_neg hc]
      by_cases hd : s.lev i k < cost - s.win i k
      · rw [if_pos hd, if_pos hd]
        exact ⟨rfl, h⟩
      · rw [if_neg hd, if_neg hd]
        have hb := reserve_bd (lev := s.lev i k) w0 hc c1 d0 d1
        generalize reserveOf (s.lev i k) (s.win i k) s.window cost = amt at *
        obtain ⟨e1, e2⟩ := sim_secured h i k hi hk amt hb.1 hb.2.1
        have en := secured_n r i k amt
        have ew := (secured_keeps s i k amt).2.1
        rw [e1]
        cases (r.secured i k amt).1
        · exact ⟨rfl, e2⟩
        · refine ⟨rfl, ?_⟩
          simp only [if_true]
          refine sim_setWin (sim_charged e2 i k hi (by rw [en]; exact hk) amt hb.1 hb.2.1) i k _ hb.2.2.1 ?_ hi (by show k < (r.secured i k amt).2.n; rw [en]; exact hk)
          show _ ≤ (s.secured i k amt).2.window
          rw [ew]
          exact hb.2.2.2
end Go.Proofs.YtpfahgogjeignaaGreatDoor

namespace Go.Proofs.YtpfahgogjeignaaGreatDoor
open Go.RowKit

theorem copied_keeps (r : RS) (i k : Nat) : (r.copied i k).lease = r.lease ∧ (r.copied i k).window = r.window ∧ (r.copied i k).rate = r.rate ∧ (r.copied i k).now = r.now ∧ (r.copied i k).sep = r.sep ∧ (r.copied i k).stil = r.stil ∧ (r.copied i k).alone = r.alone ∧ (r.copied i k).win = r.win ∧ (r.copied i k).holder = r.holder ∧ (r.copied i k).epoch = r.epoch ∧ (r.copied i k).til = r.til ∧ (r.copied i k).solo = r.solo := by
  induction k with
  | zero => exact ⟨rfl, rfl, rfl, rfl, rfl, rfl, rfl, rfl, rfl, rfl, rfl, rfl⟩
  | succ k ih => exact ih
/-- The other's levels behind a join. -/
theorem copied_other {r : RS} (ok : r.Ok) (i : Nat) (hi : i < 2) (k : Nat) (hk : k ≤ r.n) (q : Nat) (hq : q < k) : (r.copied i k).level (1 - i) q = r.level i q := by
  induction k with
  | zero => exact absurd hq (Nat.not_lt_zero _)
  | succ k ih =>
    have o := copied_ok ok i hi k (by omega)
    have en := copied_n r i k
    show ((r.copied i k).did (1 - i) k ((r.copied i k).level i k) true).level (1 - i) q = r.level i q
    by_cases e : q = k
    · subst e
      have hb := level_bd o i q hi (by rw [en]; omega)
      rw [level_did o (1 - i) q (by omega) (by rw [en]; omega) _ true hb.1 (fun _ => hb.2)]
      show (r.copied i q).level i q = r.level i q
      exact copied_level r i q hi q
    · rw [level_did_other _ _ _ (by omega)]
      exact ih (by omega) (by omega)
theorem sim_copied {s : PC} {r : RS} (h : Sim s r) (i : Nat) (hi : i < 2) : Sim (s.copied i) (r.copied i r.n) := by
  obtain ⟨k1, k2, k3, k4, k5, k6, k7, k8, k9, k10, k11, k12⟩ := copied_keeps r i r.n
  have km := copied_same r i r.n
  have kn := copied_n r i r.n
  have kr := copied_room r i r.n
  refine ⟨copied_pok h.ok i, copied_ok h.rok i hi r.n (Nat.le_refl _), ?_, ?_, ?_, ?_, ?_, ?_, ?_, ?_, ?_, ?_, ?_, ?_, ?_, ?_, ?_, ?_, ?_⟩
  · rw [k1]; exact h.lease
  · rw [k2]; exact h.window
  · rw [kn]; exact h.count
  · rw [k4]; exact h.now
  · rw [kn, k3]; exact h.rate
  · rw [kn, kr]; exact h.room
  · rw [km.1]; exact h.link
  · rw [km.2]; exact h.up
  · rw [k5]; exact h.epoch
  · rw [k6]; exact h.til
  · rw [k7]; exact h.alone
  · rw [kn]
    intro j q hj hq
    show upd s.lev (1 - i) (s.lev i) j q = _
    by_cases e : j = 1 - i
    · subst e
      rw [upd_same, copied_other h.rok i hi r.n (Nat.le_refl _) q hq]
      exact h.lev i q hi hq
    · have ej : j = i := by omega
      rw [upd_other _ _ e, ej, copied_level r i r.n hi q]
      exact h.lev i q hi hq
  · rw [kn, k8]; exact h.win
  · rw [k9]; exact h.holder
  · rw [k10]; exact h.wepoch
  · rw [k11]; exact h.wtil
  · rw [k12]; exact h.solo
theorem sim_unaloned {s : PC} {r : RS} (h : Sim s r) (i : Nat) : Sim (s.unaloned i) (r.unaloned i) := by
  refine ⟨unaloned_pok h.ok i, rok_of h.rok rfl rfl rfl rfl rfl rfl rfl, h.lease, h.window, h.count, h.now, h.rate, h.room, h.link, ?_, ?_, ?_, upd_eq 2 h.alone rfl, h.lev, ?_, h.holder, h.wepoch, h.wtil, h.solo⟩
  · show ∀ j, j < 2 → s.up j = upd r.up i (r.up i) j
    rw [upd_self]; exact h.up
  · show ∀ j, j < 2 → s.epoch j = upd r.sep i (r.sep i) j
    rw [upd_self]; exact h.epoch
  · show ∀ j, j < 2 → s.til j = upd r.stil i (r.stil i) j
    rw [upd_self]; exact h.til
  · show ∀ j k, j < 2 → k < r.n → s.win j k = upd r.win i (r.win i) j k
    rw [upd_self]; exact h.win
theorem sim_unsoloed {s : PC} {r : RS} (h : Sim s r) : Sim s.unsoloed r.unsoloed :=
  ⟨unsoloed_pok h.ok, rok_of h.rok rfl rfl rfl rfl rfl rfl rfl, h.lease, h.window, h.count, h.now, h.rate, h.room, h.link, h.up, h.epoch, h.til, h.alone, h.lev, h.win, h.holder, h.wepoch, h.wtil, rfl⟩
theorem sim_joinEnd {s : PC} {r : RS} (h : Sim s r) (i : Nat) (hi : i < 2) : (s.joinEnd i).1 = (r.joinEnd i).1 ∧ Sim (s.joinEnd i).2 (r.joinEnd i).2 := by
  unfold PC.joinEnd RS.joinEnd
  rw [arrives_eq h _ hi, answered_eq h _ hi]
  refine ⟨rfl, ?_⟩
  cases r.arrives i 2
  · exact h
  · exact sim_unsoloed h
theorem sim_joined {s : PC} {r : RS} (h : Sim s r) (i : Nat) (hi : i < 2) : (s.joined i).1 = (r.joined i).1 ∧ Sim (s.joined i).2 (r.joined i).2 := by
  unfold PC.joined RS.joined
  rw [leased_eq h i hi, answered_eq1 h i hi, arrives_eq1 h i hi]
  cases r.leased i
  · exact ⟨rfl, h⟩
  · have hc : Sim ((s.unaloned i).copied i) ((r.unaloned i).copied i r.n) := sim_copied (sim_unaloned h i) i hi
    cases r.answered i (1 - i)
    · cases r.arrives i (1 - i)
      · exact ⟨rfl, sim_unaloned h i⟩
      · exact ⟨rfl, hc⟩
    · exact sim_joinEnd hc i hi
theorem joined_n (r : RS) (i : Nat) : (r.joined i).2.n = r.n := by
  have e : ((r.unaloned i).copied i r.n).n = r.n := copied_n (r.unaloned i) i r.n
  unfold RS.joined RS.joinEnd
  split
  · split
    · dsimp only
      split
      · exact e
      · exact e
    · dsimp only
      split
      · exact e
      · rfl
  · rfl
theorem copied_len (r : RS) (i k : Nat) (j q : Nat) : ((r.copied i k).past j q).length ≤ (r.past j q).length + 1 := by
  induction k with
  | zero => exact Nat.le_succ _
  | succ k ih =>
    show (upd (r.copied i k).past (1 - i) (upd ((r.copied i k).past (1 - i)) k _) j q).length ≤ _
    by_cases e : j = 1 - i ∧ q = k
    · obtain ⟨rfl, rfl⟩ := e
      rw [upd2_same, copied_past r i q (1 - i) q (.inr (Nat.le_refl _)), List.length_append]
      exact Nat.le_refl _
    · rw [upd2_other _ _ e]
      exact ih
theorem joined_len (r : RS) (i : Nat) (j q : Nat) : ((r.joined i).2.past j q).length ≤ (r.past j q).length + 1 := by
  have e : (((r.unaloned i).copied i r.n).past j q).length ≤ (r.past j q).length + 1 := copied_len (r.unaloned i) i r.n j q
  unfold RS.joined RS.joinEnd
  split
  · split
    · dsimp only
      split
      · exact e
      · exact e
    · dsimp only
      split
      · exact e
      · exact Nat.le_succ _
  · exact Nat.le_succ _
/-- The wait that both tell. -/
theorem sim_wait {s : PC} {r : RS} (h : Sim s r) (i k cost v : Int) (hw : r.wrong i k cost = 0) (hv : WaitIs (fun t => r.grown k.toNat (r.level i.toNat k.toNat) t) (cost - r.win i.toNat k.toNat) v) : s.waitR i k cost = (v, 0) := by
  obtain ⟨hi, k0, kn, c0, c1⟩ := wrong_bd hw
  obtain ⟨i0, i2⟩ := node_bd hi
  have i2n : i.toNat < 2 := by omega
  have k2n : k.toNat < r.n := by omega
  unfold PC.waitR
  rw [wrong_eq h, if_pos hw]
  have hl := level_bd h.rok i.toNat k.toNat i2n k2n
  have := waitOf_is (l := s.lev i.toNat k.toNat) (need := cost - s.win i.toNat k.toNat) (rate := s.rate k.toNat) (room := s.burst k.toNat - s.window) (by rw [h.lev _ _ i2n k2n, h.room _ k2n]; exact hl.2) (h.ok.rate0 _)
  rw [h.lev _ _ i2n k2n, h.win _ _ i2n k2n, h.rate _ k2n, h.room _ k2n] at this ⊢
  rw [this.one hv]

end Go.Proofs.YtpfahgogjeignaaGreatDoor
