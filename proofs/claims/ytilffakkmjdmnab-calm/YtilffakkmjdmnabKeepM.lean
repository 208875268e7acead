/-
  Once all works again, further: joins, crashes, the other takes over: plain reckoning.
-/
import Derived.Test.YtilffakkmjdmnabKeepL
set_option linter.unusedVariables false
set_option linter.unusedSimpArgs false
namespace Go.Proofs.Ytilffakkmjdmnab
open Go.RowKit

theorem passed_lev {s : PC} (t : Int) (i k : Nat) (hi : i < 2) (hk : (k : Int) < s.count) : (s.passed t).lev i k = s.grown k (s.lev i k) t := by
  show (if _ then _ else _ : Int) = _
  rw [if_pos ⟨hk, hi⟩]
/-- A join where all works. -/
theorem held_joined {s : PC} {i : Nat} (h : Held s i) (hi : i < 2) (hl : s.hasLease i = true) :
    (s.joined i).1 = 3 ∧ Held (s.joined i).2 i ∧ (s.joined i).2.hasLease i = true ∧ (s.joined i).2.solo = false ∧ (s.joined i).2.lev (1 - i) = s.lev i ∧ (s.joined i).2.lev i = s.lev i ∧ (s.joined i).2.wtil = s.wtil ∧ (s.joined i).2.now = s.now ∧ (s.joined i).2.count = s.count ∧ (s.joined i).2.lease = s.lease ∧ (s.joined i).2.alone i = false := by
  obtain ⟨_, _, _, a4⟩ := held_arrives h.up h.link hi
  have b := held_arrives (s := (s.unaloned i).copied i) (i := i) h.up h.link hi
  have e : s.joined i = (3, ((s.unaloned i).copied i).unsoloed) := by
    unfold PC.joined
    rw [if_pos hl, if_pos a4]
    unfold PC.joinEnd
    rw [if_pos b.2.1, if_pos b.1]
  have ok2 := joined_ok h.ok i
  have g2 := gate_joined h.gate i hi
  rw [e] at ok2 g2
  rw [e]
  refine ⟨rfl, ⟨ok2, g2, h.up, h.link, h.holder, h.epoch⟩, hl, rfl, ?_, ?_, rfl, rfl, rfl, rfl, ?_⟩
  · show upd s.lev (1 - i) (s.lev i) (1 - i) = s.lev i
    exact upd_same _ _ _
  · show upd s.lev (1 - i) (s.lev i) i = s.lev i
    exact upd_other _ _ (by omega)
  · show upd s.alone i false i = false
    exact upd_same _ _ _
/-- Where the witness answers, a request is decided. -/
theorem able_asked {s : PC} {i : Nat} (hl : s.hasLease i = true) (ha : s.answered i 2 = true) (k : Nat) (cost : Int) : (s.asked i k cost).1 = 5 ∨ (s.asked i k cost).1 = 6 := by
  have hs : ∀ amt, (s.secured i k amt).1 = true := by
    intro amt
    unfold PC.secured
    split
    · rfl
    · split
      · rfl
      · split
        · show (s.charged (1 - i) k amt).answered i 2 = true
          exact ha
        · exact ha
  unfold PC.asked
  rw [if_pos hl]
  split
  · exact .inl rfl
  · split
    · exact .inr rfl
    · rw [if_pos (hs _)]
      exact .inl rfl
/-- The other, behind the holder's crash: refused while the lease lasts. -/
theorem other_refused {s : PC} {j : Nat} (hj : j < 2) (hlink : s.link (j + 2 - 1) = 0) (hh : s.holder ≠ (j : Int)) (hn : s.holder ≠ -1) (hw : s.now < s.wtil) : s.campaigned (j : Int) = (2, s) := by
  have a1 : s.arrives j 2 = true := by
    unfold PC.arrives
    rw [hlink]
    simp
  have a2 : s.answered j 2 = true := by
    unfold PC.answered
    rw [a1, hlink]
    rfl
  have hm : s.mayLead (j : Int) = false := by
    unfold PC.mayLead
    simp
    exact ⟨⟨hh, hn⟩, fun h => by omega⟩
  unfold PC.campaigned
  rw [Int.toNat_natCast, if_pos a1, hm, if_neg (by simp), if_pos a2]
/-- .. granted once it has run out, if nobody acts alone. -/
theorem other_granted {s : PC} (ok : s.Ok) {j : Nat} (hj : j < 2) (hup : s.up j = true) (hlink : s.link (j + 2 - 1) = 0) (hw : s.wtil ≤ s.now) (hso : s.solo = false) : (s.campaigned (j : Int)).1 = 1 ∧ (s.campaigned (j : Int)).2.hasLease j = true ∧ (s.campaigned (j : Int)).2.answered j 2 = true ∧ (s.campaigned (j : Int)).2.up = s.up ∧ (s.campaigned (j : Int)).2.count = s.count := by
  have a1 : s.arrives j 2 = true := by
    unfold PC.arrives
    rw [hlink]
    simp
  have a2 : s.answered j 2 = true := by
    unfold PC.answered
    rw [a1, hlink]
    rfl
  have hm : s.mayLead (j : Int) = true := by
    unfold PC.mayLead
    rw [hso]
    simp [hw]
  have e : s.campaigned (j : Int) = (1, (s.granted (j : Int)).took j) := by
    unfold PC.campaigned
    rw [Int.toNat_natCast, if_pos a1, if_pos hm, if_pos a2]
  have kp : (s.granted (j : Int)).up = s.up ∧ (s.granted (j : Int)).link = s.link ∧ (s.granted (j : Int)).now = s.now ∧ (s.granted (j : Int)).wtil = s.now + s.lease ∧ (s.granted (j : Int)).count = s.count := by
    unfold PC.granted
    split <;> exact ⟨rfl, rfl, rfl, rfl, rfl⟩
  have l0 := ok.lease0
  rw [e]
  refine ⟨rfl, ?_, ?_, kp.1, kp.2.2.2.2⟩
  · unfold PC.hasLease
    show ((s.granted (j : Int)).up j && decide ((s.granted (j : Int)).now < upd (s.granted (j : Int)).til j (s.granted (j : Int)).wtil j)) = true
    rw [upd_same, kp.1, hup, kp.2.2.1, kp.2.2.2.1]
    simp
    omega
  · unfold PC.answered PC.arrives
    show ((!((s.granted (j : Int)).link (j + 2 - 1) == 2) && (2 == 2 || (s.granted (j : Int)).up 2)) && (s.granted (j : Int)).link (j + 2 - 1) == 0) = true
    rw [kp.2.1, hlink]
    rfl

/-- The wait, put to use: denied a tick early, admitted in time, denied for ever. -/
theorem wait_grown {s : PC} {i k : Nat} (ok : s.Ok) (hk : (k : Int) < s.count) (hl : s.lev i k ≤ s.burst k - s.window) (cost : Int) : WaitIs (fun t => s.grown k (s.lev i k) t) (cost - s.win i k) (waitOf (s.lev i k) (cost - s.win i k) (s.rate k) (s.burst k - s.window)) :=
  waitOf_is hl (ok.rate0 k)
theorem grown_add {s : PC} (ok : s.Ok) (k : Nat) (l a b : Int) (b0 : 0 ≤ b) : s.grown k (s.grown k l a) b = s.grown k l (a + b) := by
  unfold PC.grown
  have hb := Int.mul_nonneg (ok.rate0 k) b0
  rw [Int.mul_add]
  generalize s.rate k * a = x
  generalize s.rate k * b = y at *
  generalize s.burst k - s.window = r
  by_cases h1 : r < l + x
  · rw [if_pos h1]
    by_cases h2 : r < r + y
    · rw [if_pos h2, if_pos (by omega)]
    · rw [if_neg h2, if_pos (by omega)]; omega
  · rw [if_neg h1]
    by_cases h2 : r < l + x + y
    · rw [if_pos h2, if_pos (by omega)]
    · rw [if_neg h2, if_neg (by omega)]; omega
theorem waitOf_bd {l need rate room : Int} (l0 : 0 ≤ l) (h1 : room ≤ 1000000) (r0 : 0 ≤ rate) : -1 ≤ waitOf l need rate room ∧ waitOf l need rate room ≤ 1000000 := by
  unfold waitOf
  split
  · omega
  · split
    · omega
    · rename_i h2 h3
      have rp : 0 < rate := by omega
      constructor
      · have := Int.ediv_nonneg (show 0 ≤ need - l + rate - 1 by omega) r0
        omega
      · refine Int.le_of_lt_add_one ?_
        refine Int.ediv_lt_of_lt_mul rp ?_
        have : 1000001 * 1 ≤ 1000001 * rate := Int.mul_le_mul_of_nonneg_left (by omega) (by omega)
        have h4 : (1000000 + 1) * rate = 1000000 * rate + rate := by rw [Int.add_mul, Int.one_mul]
        have h5 : 1000000 * 1 ≤ 1000000 * rate := Int.mul_le_mul_of_nonneg_left (by omega) (by omega)
        rw [h4]
        omega

end Go.Proofs.Ytilffakkmjdmnab
