/-
  The program's cluster and the document's stay alike: plain reckoning.
-/
import Derived.Test.YtejcdjnngmljnaaLawD
import Derived.Test.YtejcdjnngmljnaaProD
import Derived.Test.YtejcdjnngmljnaaProE
import Derived.Test.YtejcdjnngmljnaaRefE
set_option linter.unusedVariables false
set_option linter.unusedSimpArgs false
namespace Go.Proofs.Ytejcdjnngmljnaa
open Go.RowKit

theorem grown_eq {s : PC} {r : RS} (h : Sim s r) (k : Nat) (hk : k < r.n) (l t : Int) : s.grown k l t = r.grown k l t := by
  unfold PC.grown RS.grown
  rw [h.room k hk, h.rate k hk]

theorem rgrown_add (r : RS) (k : Nat) (l a b : Int) (r0 : 0 ≤ r.rate k) (b0 : 0 ≤ b) : r.grown k (r.grown k l a) b = r.grown k l (a + b) := by
  unfold RS.grown
  have hb := Int.mul_nonneg r0 b0
  rw [Int.mul_add]
  generalize r.rate k * a = x
  generalize r.rate k * b = y at *
  by_cases h1 : r.room k < l + x
  · rw [if_pos h1]
    by_cases h2 : r.room k < r.room k + y
    · rw [if_pos h2, if_pos (by omega)]
    · rw [if_neg h2, if_pos (by omega)]; omega
  · rw [if_neg h1]
    by_cases h2 : r.room k < l + x + y
    · rw [if_pos h2, if_pos (by omega)]
    · rw [if_neg h2, if_neg (by omega)]; omega

theorem ChOk_later {room lo now now' : Int} {l : List Chg} (h : ChOk room lo now l) (hn : now ≤ now') : ChOk room lo now' l := by
  induction l generalizing lo with
  | nil => exact Int.le_trans h hn
  | cons c q ih => exact ⟨h.1, h.2.1, h.2.2.1, h.2.2.2.1, ih h.2.2.2.2⟩

theorem level_passed {s : PC} {r : RS} (h : Sim s r) (t : Int) (t0 : 0 ≤ t) (i k : Nat) : (r.passed t).level i k = r.grown k (r.level i k) t := by
  show r.grown k (r.lvTo k (r.past i k)).1 (r.now + t - (r.lvTo k (r.past i k)).2) = r.grown k (r.grown k (r.lvTo k (r.past i k)).1 (r.now - (r.lvTo k (r.past i k)).2)) t
  rw [rgrown_add r k _ _ _ (h.rok.rate0 k) t0]
  congr 1
  omega

theorem sim_passed {s : PC} {r : RS} (h : Sim s r) (t : Int) (t0 : 0 ≤ t) (t1 : t ≤ 1000000000000 - s.now) : Sim (s.passed t) (r.passed t) := by
  have hn := h.now
  have n0 := h.rok.now0
  have rok : (r.passed t).Ok := by
    refine ⟨h.rok.lease0, h.rok.lease1, h.rok.win0, h.rok.win1, h.rok.n0, h.rok.n1, h.rok.rate0, h.rok.rate1, h.rok.room0, h.rok.room1, ?_, ?_, ?_⟩
    · show 0 ≤ r.now + t; omega
    · show r.now + t ≤ 1000000000000; omega
    · intro i k hi hk
      exact ChOk_later (h.rok.chs i k hi hk) (by show r.now ≤ r.now + t; omega)
  refine ⟨passed_ok h.ok t t0 t1, rok, h.lease, h.window, h.count, ?_, h.rate, h.room, h.link, h.up, h.epoch, h.til, h.alone, ?_, h.win, h.holder, h.wepoch, h.wtil, h.solo⟩
  · show s.now + t = r.now + t; rw [hn]
  · intro i k hi hk
    rw [level_passed h t t0 i k, ← h.lev i k hi hk, ← grown_eq h k hk]
    show (if _ then _ else _ : Int) = _
    rw [if_pos ⟨by rw [h.count]; have : k < r.n := hk; omega, hi⟩]

theorem ok_of {s s' : PC} (ok : s.Ok) (h1 : s'.lease = s.lease) (h2 : s'.window = s.window) (h3 : s'.count = s.count) (h4 : s'.rate = s.rate) (h5 : s'.burst = s.burst) (h6 : s'.now = s.now) (h7 : s'.lev = s.lev) (h8 : ∀ i k, s'.win i k = s.win i k ∨ s'.win i k = 0) : s'.Ok := by
  refine ⟨?_, ?_, ?_, ?_, ?_, ?_, ?_, ?_, ?_, ?_, ?_, ?_, ?_, ?_, ?_, ?_, ?_⟩
  · rw [h1]; exact ok.lease0
  · rw [h1]; exact ok.lease1
  · rw [h2]; exact ok.win0
  · rw [h2]; exact ok.win1
  · rw [h3]; exact ok.count0
  · rw [h3]; exact ok.count1
  · rw [h4]; exact ok.rate0
  · rw [h4]; exact ok.rate1
  · rw [h5]; exact ok.burst0
  · rw [h5]; exact ok.burst1
  · rw [h2, h3, h5]; exact ok.fits
  · rw [h6]; exact ok.now0
  · rw [h6]; exact ok.now1
  · rw [h7]; exact ok.lev0
  · rw [h7]; exact ok.lev1
  · intro i k
    have := ok.wn0 i k
    rcases h8 i k with e | e <;> rw [e] <;> omega
  · intro i k
    have := ok.wn1 i k
    have := ok.win0
    rw [h2]
    rcases h8 i k with e | e <;> rw [e] <;> omega
theorem rok_of {r r' : RS} (ok : r.Ok) (h1 : r'.lease = r.lease) (h2 : r'.window = r.window) (h3 : r'.n = r.n) (h4 : r'.rate = r.rate) (h5 : r'.room = r.room) (h6 : r'.now = r.now) (h7 : r'.past = r.past) : r'.Ok := by
  refine ⟨?_, ?_, ?_, ?_, ?_, ?_, ?_, ?_, ?_, ?_, ?_, ?_, ?_⟩
  · rw [h1]; exact ok.lease0
  · rw [h1]; exact ok.lease1
  · rw [h2]; exact ok.win0
  · rw [h2]; exact ok.win1
  · rw [h3]; exact ok.n0
  · rw [h3]; exact ok.n1
  · rw [h4]; exact ok.rate0
  · rw [h4]; exact ok.rate1
  · rw [h5]; exact ok.room0
  · rw [h5]; exact ok.room1
  · rw [h6]; exact ok.now0
  · rw [h6]; exact ok.now1
  · rw [h3, h5, h6, h7]; exact ok.chs

theorem upd_eq {α : Type} {f g : Nat → α} {i : Nat} {x y : α} (n : Nat) (h : ∀ j, j < n → f j = g j) (e : x = y) : ∀ j, j < n → upd f i x j = upd g i y j := by
  intro j hj
  unfold upd
  split
  · exact e
  · exact h j hj

theorem sim_linked {s : PC} {r : RS} (h : Sim s r) (a c m : Int) : Sim (s.linked a c m) (r.linked a c m) :=
  ⟨ok_of h.ok rfl rfl rfl rfl rfl rfl rfl (fun _ _ => .inl rfl), rok_of h.rok rfl rfl rfl rfl rfl rfl rfl, h.lease, h.window, h.count, h.now, h.rate, h.room, upd_eq 3 h.link rfl, h.up, h.epoch, h.til, h.alone, h.lev, h.win, h.holder, h.wepoch, h.wtil, h.solo⟩
theorem upd_self {α : Type} (f : Nat → α) (i : Nat) : upd f i (f i) = f := by
  funext j
  unfold upd
  split
  · rename_i h; rw [h]
  · rfl
theorem sim_started {s : PC} {r : RS} (h : Sim s r) (i : Nat) : Sim (s.started i) (r.started i) := by
  refine ⟨ok_of h.ok rfl rfl rfl rfl rfl rfl rfl (fun _ _ => .inl rfl), rok_of h.rok rfl rfl rfl rfl rfl rfl rfl, h.lease, h.window, h.count, h.now, h.rate, h.room, h.link, upd_eq 2 h.up rfl, ?_, ?_, ?_, h.lev, ?_, h.holder, h.wepoch, h.wtil, h.solo⟩
  · show ∀ j, j < 2 → s.epoch j = upd r.sep i (r.sep i) j
    rw [upd_self]; exact h.epoch
  · show ∀ j, j < 2 → s.til j = upd r.stil i (r.stil i) j
    rw [upd_self]; exact h.til
  · show ∀ j, j < 2 → s.alone j = upd r.alone i (r.alone i) j
    rw [upd_self]; exact h.alone
  · show ∀ j k, j < 2 → k < r.n → s.win j k = upd r.win i (r.win i) j k
    rw [upd_self]; exact h.win
theorem upd2_eq {f g : Nat → Nat → Int} {i n : Nat} {x y : Nat → Int} (h : ∀ j k, j < 2 → k < n → f j k = g j k) (e : ∀ k, k < n → x k = y k) : ∀ j k, j < 2 → k < n → upd f i x j k = upd g i y j k := by
  intro j k hj hk
  unfold upd
  split
  · exact e k hk
  · exact h j k hj hk
theorem crashed_win (s : PC) (i : Nat) : ∀ j k, (s.crashed i).win j k = s.win j k ∨ (s.crashed i).win j k = 0 := by
  intro j k
  show upd s.win i (fun _ => 0) j k = s.win j k ∨ upd s.win i (fun _ => 0) j k = 0
  unfold upd
  split
  · exact .inr rfl
  · exact .inl rfl
theorem took_win (s : PC) (i : Nat) : ∀ j k, (s.took i).win j k = s.win j k ∨ (s.took i).win j k = 0 := by
  intro j k
  show (if s.epoch i = s.wepoch then s.win else upd s.win i (fun _ => 0)) j k = s.win j k ∨ (if s.epoch i = s.wepoch then s.win else upd s.win i (fun _ => 0)) j k = 0
  unfold upd
  split
  · exact .inl rfl
  · dsimp only
    split
    · exact .inr rfl
    · exact .inl rfl
theorem sim_crashed {s : PC} {r : RS} (h : Sim s r) (i : Nat) : Sim (s.crashed i) (r.crashed i) :=
  ⟨ok_of h.ok rfl rfl rfl rfl rfl rfl rfl (crashed_win s i), rok_of h.rok rfl rfl rfl rfl rfl rfl rfl, h.lease, h.window, h.count, h.now, h.rate, h.room, h.link, upd_eq 2 h.up rfl, upd_eq 2 h.epoch rfl, upd_eq 2 h.til rfl, upd_eq 2 h.alone rfl, h.lev, upd2_eq h.win (fun _ _ => rfl), h.holder, h.wepoch, h.wtil, h.solo⟩

theorem arrives_eq {s : PC} {r : RS} (h : Sim s r) (i : Nat) (hi : i < 2) : s.arrives i 2 = r.arrives i 2 := by
  unfold PC.arrives RS.arrives
  rw [h.link _ (by omega)]
  rfl
theorem answered_eq {s : PC} {r : RS} (h : Sim s r) (i : Nat) (hi : i < 2) : s.answered i 2 = r.answered i 2 := by
  unfold PC.answered RS.answered
  rw [arrives_eq h i hi, h.link _ (by omega)]
theorem grants_eq {s : PC} {r : RS} (h : Sim s r) (i : Int) : s.mayLead i = r.grants i := by
  unfold PC.mayLead RS.grants
  rw [h.holder, h.wtil, h.now, h.solo]
theorem sim_granted {s : PC} {r : RS} (h : Sim s r) (i : Int) : Sim (s.granted i) (r.granted i) := by
  unfold PC.granted RS.granted
  have e : s.now + s.lease = r.now + r.lease := by rw [h.now, h.lease]
  by_cases hh : s.holder = i
  · rw [if_pos hh, if_pos (by rw [← h.holder]; exact hh)]
    exact ⟨ok_of h.ok rfl rfl rfl rfl rfl rfl rfl (fun _ _ => .inl rfl), rok_of h.rok rfl rfl rfl rfl rfl rfl rfl, h.lease, h.window, h.count, h.now, h.rate, h.room, h.link, h.up, h.epoch, h.til, h.alone, h.lev, h.win, h.holder, h.wepoch, e, h.solo⟩
  · rw [if_neg hh, if_neg (by rw [← h.holder]; exact hh)]
    exact ⟨ok_of h.ok rfl rfl rfl rfl rfl rfl rfl (fun _ _ => .inl rfl), rok_of h.rok rfl rfl rfl rfl rfl rfl rfl, h.lease, h.window, h.count, h.now, h.rate, h.room, h.link, h.up, h.epoch, h.til, h.alone, h.lev, h.win, rfl, by show wrap64 _ = wrap64 _; rw [h.wepoch], e, rfl⟩
theorem sim_took {s : PC} {r : RS} (h : Sim s r) (i : Nat) (hi : i < 2) : Sim (s.took i) (r.took i) := by
  refine ⟨ok_of h.ok rfl rfl rfl rfl rfl rfl rfl (took_win s i), rok_of h.rok rfl rfl rfl rfl rfl rfl rfl, h.lease, h.window, h.count, h.now, h.rate, h.room, h.link, ?_, upd_eq 2 h.epoch h.wepoch, upd_eq 2 h.til h.wtil, upd_eq 2 h.alone h.solo, h.lev, ?_, h.holder, h.wepoch, h.wtil, h.solo⟩
  · show ∀ j, j < 2 → s.up j = upd r.up i (r.up i) j
    rw [upd_self]; exact h.up
  · intro j k hj hk
    show (if s.epoch i = s.wepoch then s.win else upd s.win i (fun _ => 0)) j k = upd r.win i (if r.sep i = r.epoch then r.win i else fun _ => 0) j k
    rw [h.epoch i hi, h.wepoch]
    by_cases e : r.sep i = r.epoch
    · rw [if_pos e, if_pos e, upd_self]; exact h.win j k hj hk
    · rw [if_neg e, if_neg e]; exact upd2_eq h.win (fun _ _ => rfl) j k hj hk
theorem sim_campaigned {s : PC} {r : RS} (h : Sim s r) (i : Int) (i0 : 0 ≤ i) (i2 : i < 2) : (s.campaigned i).1 = (r.campaigned i).1 ∧ Sim (s.campaigned i).2 (r.campaigned i).2 := by
  unfold PC.campaigned RS.campaigned
  have hi : i.toNat < 2 := by omega
  rw [arrives_eq h _ hi, answered_eq h _ hi, grants_eq h]
  cases r.arrives i.toNat 2
  · exact ⟨rfl, h⟩
  · cases r.grants i
    · exact ⟨rfl, h⟩
    · cases r.answered i.toNat 2
      · exact ⟨rfl, sim_granted h i⟩
      · exact ⟨rfl, sim_took (sim_granted h i) _ hi⟩

end Go.Proofs.Ytejcdjnngmljnaa
