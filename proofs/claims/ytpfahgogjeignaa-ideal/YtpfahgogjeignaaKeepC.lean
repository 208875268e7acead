/-
  Without faults it is one bucket: plain reckoning.
-/
import Derived.Test.YtpfahgogjeignaaKeepB
set_option linter.unusedVariables false
set_option linter.unusedSimpArgs false
namespace Go.Proofs.Ytpfahgogjeignaa
open Go.RowKit

/-- No window, no faults, nobody but node i has been at work. -/
structure Easy (s : PC) (i : Nat) (n : Nat) (R B : Nat → Int) : Prop where
  ok : s.Ok
  window : s.window = 0
  count : s.count = (n : Int)
  rate : ∀ k, k < n → s.rate k = R k
  burst : ∀ k, k < n → s.burst k = B k
  up : ∀ j, j < 2 → s.up j = true
  link : ∀ j, j < 3 → s.link j = 0
  alone : ∀ j, j < 2 → s.alone j = false
  solo : s.solo = false
  holder : s.holder = -1 ∨ s.holder = (i : Int)
  lev : ∀ k, k < n → s.lev i k ≤ B k

theorem easy_fresh {le : Int} {n : Nat} {R B : Nat → Int} (g : Good le 0 n R B) (i : Nat) (hi : i < 2) : Easy (PC.fresh le 0 n R B n 2 (-1)) i n R B ∧ ∀ k, k < n → (PC.fresh le 0 n R B n 2 (-1)).lev i k = B k := by
  have hl : ∀ k, k < n → (PC.fresh le 0 n R B n 2 (-1)).lev i k = B k := by
    intro k hk
    show (if i < 2 then (if k < n then B k - 0 else 0) else 0 : Int) = B k
    rw [if_pos hi, if_pos hk]
    omega
  refine ⟨⟨fresh_ok g.l0 g.l1 g.ten g.win 2 (-1), rfl, rfl, fun k hk => ?_, fun k hk => ?_, fun j hj => ?_, fun j hj => rfl, fun j hj => rfl, rfl, .inl rfl, fun k hk => ?_⟩, hl⟩
  · show (if k < n then R k else 0 : Int) = R k
    exact if_pos hk
  · show (if k < n then B k else 0 : Int) = B k
    exact if_pos hk
  · show decide (j < 2) = true
    simpa using hj
  · rw [hl k hk]
    exact Int.le_refl _

/-- A bucket, so many ticks later. -/
def filled (l r b t : Int) : Int := if b < l + t * r then b else l + t * r
theorem grown_filled {s : PC} {i n : Nat} {R B : Nat → Int} (h : Easy s i n R B) (k : Nat) (hk : k < n) (l t : Int) : s.grown k l t = filled l (R k) (B k) t := by
  unfold PC.grown filled
  rw [h.window, h.burst k hk, h.rate k hk, Int.mul_comm (R k) t, Int.sub_zero]
theorem easy_passed {s : PC} {i n : Nat} {R B : Nat → Int} (h : Easy s i n R B) (hi : i < 2) (t : Int) (t0 : 0 ≤ t) (t1 : t ≤ 1000000000000 - s.now) : Easy (s.passed t) i n R B ∧ ∀ k, k < n → (s.passed t).lev i k = filled (s.lev i k) (R k) (B k) t := by
  have hl : ∀ k, k < n → (s.passed t).lev i k = filled (s.lev i k) (R k) (B k) t := by
    intro k hk
    rw [← grown_filled h k hk]
    show (if _ then _ else _ : Int) = _
    rw [if_pos ⟨by rw [h.count]; omega, hi⟩]
  refine ⟨⟨passed_ok h.ok t t0 t1, h.window, h.count, h.rate, h.burst, h.up, h.link, h.alone, h.solo, h.holder, fun k hk => ?_⟩, hl⟩
  rw [hl k hk]
  unfold filled
  split <;> omega

theorem easy_campaigned {s : PC} {i n : Nat} {R B : Nat → Int} (h : Easy s i n R B) (hi : i < 2) : (s.campaigned (i : Int)).1 = 1 ∧ Easy (s.campaigned (i : Int)).2 i n R B ∧ (s.campaigned (i : Int)).2.hasLease i = true ∧ (s.campaigned (i : Int)).2.lev = s.lev := by
  have ha : s.arrives (i : Int).toNat 2 = true := by
    unfold PC.arrives
    rw [Int.toNat_natCast, h.link (i + 2 - 1) (by omega)]
    rfl
  have hw : s.answered (i : Int).toNat 2 = true := by
    unfold PC.answered
    rw [ha, Int.toNat_natCast, h.link (i + 2 - 1) (by omega)]
    rfl
  have hm : s.mayLead (i : Int) = true := by
    unfold PC.mayLead
    rcases h.holder with e | e <;> rw [e] <;> simp
  have e : s.campaigned (i : Int) = (1, (s.granted (i : Int)).took i) := by
    unfold PC.campaigned
    rw [if_pos ha, if_pos hm, if_pos hw, Int.toNat_natCast]
  have hl0 := h.ok.lease0
  have gs : (s.granted (i : Int)).solo = false := by
    unfold PC.granted
    split
    · exact h.solo
    · rfl
  have gh : (s.granted (i : Int)).holder = (i : Int) := by
    unfold PC.granted
    split
    · rename_i hx; exact hx
    · rfl
  have gt : (s.granted (i : Int)).wtil = s.now + s.lease := by
    unfold PC.granted
    split <;> rfl
  have gk : (s.granted (i : Int)).window = s.window ∧ (s.granted (i : Int)).count = s.count ∧ (s.granted (i : Int)).rate = s.rate ∧ (s.granted (i : Int)).burst = s.burst ∧ (s.granted (i : Int)).up = s.up ∧ (s.granted (i : Int)).link = s.link ∧ (s.granted (i : Int)).alone = s.alone ∧ (s.granted (i : Int)).lev = s.lev ∧ (s.granted (i : Int)).now = s.now := by
    unfold PC.granted
    split <;> exact ⟨rfl, rfl, rfl, rfl, rfl, rfl, rfl, rfl, rfl⟩
  obtain ⟨g1, g2, g3, g4, g5, g6, g7, g8, g9⟩ := gk
  have ok2 := campaigned_ok h.ok (i : Int)
  rw [e] at ok2
  rw [e]
  refine ⟨rfl, ⟨ok2, ?_, ?_, ?_, ?_, ?_, ?_, ?_, ?_, ?_, ?_⟩, ?_, g8⟩
  · show (s.granted (i : Int)).window = 0
    rw [g1]; exact h.window
  · show (s.granted (i : Int)).count = _
    rw [g2]; exact h.count
  · show ∀ k, k < n → (s.granted (i : Int)).rate k = _
    rw [g3]; exact h.rate
  · show ∀ k, k < n → (s.granted (i : Int)).burst k = _
    rw [g4]; exact h.burst
  · show ∀ j, j < 2 → (s.granted (i : Int)).up j = _
    rw [g5]; exact h.up
  · show ∀ j, j < 3 → (s.granted (i : Int)).link j = _
    rw [g6]; exact h.link
  · intro j hj
    show upd (s.granted (i : Int)).alone i (s.granted (i : Int)).solo j = false
    rw [gs, g7]
    unfold upd
    split
    · rfl
    · exact h.alone j hj
  · exact gs
  · exact .inr gh
  · show ∀ k, k < n → (s.granted (i : Int)).lev i k ≤ _
    rw [g8]; exact h.lev
  · unfold PC.hasLease
    show ((s.granted (i : Int)).up i && decide ((s.granted (i : Int)).now < upd (s.granted (i : Int)).til i (s.granted (i : Int)).wtil i)) = true
    rw [upd_same, gt, g5, g9, h.up i hi]
    simp
    omega

theorem easy_deny {s : PC} {i n : Nat} {R B : Nat → Int} (h : Easy s i n R B) (hl : s.hasLease i = true) (k : Nat) (cost : Int) (c0 : 1 ≤ cost) (hd : s.lev i k < cost) : s.asked i k cost = (6, s) := by
  have w0 := h.ok.wn0 i k
  have w1 := h.ok.wn1 i k
  rw [h.window] at w1
  unfold PC.asked
  rw [if_pos hl, if_neg (by omega), if_pos (by omega)]
theorem easy_admit {s : PC} {i n : Nat} {R B : Nat → Int} (h : Easy s i n R B) (hi : i < 2) (hl : s.hasLease i = true) (k : Nat) (cost : Int) (c0 : 1 ≤ cost) (c1 : cost ≤ 2000000) (hd : ¬ s.lev i k < cost) :
    (s.asked i k cost).1 = 5 ∧ Easy (s.asked i k cost).2 i n R B ∧ ∀ q, (s.asked i k cost).2.lev i q = upd (s.lev i) k (s.lev i k - cost) q := by
  have w0 := h.ok.wn0 i k
  have w1 := h.ok.wn1 i k
  have hwn := h.window
  rw [h.window] at w1
  have ew : s.win i k = 0 := by omega
  have er : reserveOf (s.lev i k) (s.win i k) s.window cost = cost := by
    unfold reserveOf resN
    rw [ew, h.window]
    split <;> omega
  have hna : ¬ s.alone i = true := by rw [h.alone i hi]; simp
  have har : s.arrives i (1 - i) = true := by
    unfold PC.arrives
    rw [h.link (i + (1 - i) - 1) (by omega), h.up (1 - i) (by omega)]
    simp
  have han : s.answered i (1 - i) = true := by
    unfold PC.answered
    rw [har, h.link (i + (1 - i) - 1) (by omega)]
    rfl
  have es : s.secured i k cost = (true, s.charged (1 - i) k cost) := by
    unfold PC.secured
    rw [if_neg hna, if_pos han]
  have e : s.asked i k cost = (5, ((s.charged (1 - i) k cost).charged i k cost).setWin i k (cost - (cost - s.win i k))) := by
    unfold PC.asked
    rw [if_pos hl, if_neg (by omega), if_neg (by omega), er, es]
    rfl
  have ok2 := asked_ok h.ok i k cost c0 c1
  have hlv : ∀ q, ((s.charged (1 - i) k cost).charged i k cost).lev i q = upd (s.lev i) k (s.lev i k - cost) q := by
    intro q
    have e1 : (s.charged (1 - i) k cost).lev i = s.lev i := by
      show upd s.lev (1 - i) _ i = s.lev i
      exact upd_other _ _ (by omega)
    show upd (s.charged (1 - i) k cost).lev i (upd ((s.charged (1 - i) k cost).lev i) k (chargedLev ((s.charged (1 - i) k cost).lev i k) cost)) i q = _
    rw [upd_same, e1]
    unfold chargedLev
    rw [if_neg hd]
  rw [e] at ok2
  rw [e]
  refine ⟨rfl, ⟨ok2, h.window, h.count, h.rate, h.burst, h.up, h.link, h.alone, h.solo, h.holder, fun q hq => ?_⟩, hlv⟩
  show ((s.charged (1 - i) k cost).charged i k cost).lev i q ≤ B q
  rw [hlv q]
  have := h.lev q hq
  unfold upd
  split
  · rename_i hx
    rw [← hx]; omega
  · exact this

/-! ### A row of numbers that is written -/
def Toks (w : World) (g cap n : Nat) (f : Nat → Int) : Prop := ∃ arr, BAt w g 3 arr ∧ arr.size = cap ∧ n ≤ cap ∧ ∀ j, j < n → arr[j]? = some (.int .i64 (f j))
theorem Toks.cell {w : World} {g cap n : Nat} {f : Nat → Int} (h : Toks w g cap n f) (j : Nat) (hj : j < n) : w.cell? ⟨g, j, none⟩ = some (.int .i64 (f j)) := by
  obtain ⟨arr, hb, _, _, hc⟩ := h
  rw [hb.cell, hc j hj]
theorem Toks.free {w : World} {g cap n : Nat} {f : Nat → Int} (h : Toks w g cap n f) (o : Nat) : w.frozen? ⟨g, o, none⟩ = false := by
  obtain ⟨arr, hb, _⟩ := h
  exact hb.free o
theorem Toks.lt {w : World} {g cap n : Nat} {f : Nat → Int} (h : Toks w g cap n f) : g < w.heap.size := by
  obtain ⟨arr, hb, _⟩ := h
  exact hb.lt
theorem Toks.kept {S : Nat → Prop} {w w' : World} {g cap n : Nat} {f : Nat → Int} (h : Toks w g cap n f) (k : Kept S w w') (hs : ¬ S g) : Toks w' g cap n f := by
  obtain ⟨arr, hb, h1⟩ := h
  exact ⟨arr, hb.kept k hs, h1⟩
theorem Toks.set {w : World} {g cap n : Nat} {f : Nat → Int} (h : Toks w g cap n f) (k : Nat) (hk : k < n) (v : Int) : Toks (w.setCell ⟨g, k, none⟩ (.int .i64 v)) g cap n (upd f k v) := by
  obtain ⟨arr, hb, h1, h2, h3⟩ := h
  refine ⟨_, hb.set k _, by simpa using h1, h2, fun j hj => ?_⟩
  rw [Array.getElem?_setIfInBounds]
  unfold upd
  by_cases e : k = j
  · rw [if_pos e, if_pos e.symm, if_pos (by omega)]
  · rw [if_neg e, if_neg (fun x => e x.symm), h3 j hj]
theorem Toks.as {w : World} {g cap n : Nat} {f f' : Nat → Int} (h : Toks w g cap n f) (e : ∀ j, j < n → f j = f' j) : Toks w g cap n f' := by
  obtain ⟨arr, hb, h1, h2, h3⟩ := h
  exact ⟨arr, hb, h1, h2, fun j hj => by rw [h3 j hj, e j hj]⟩
theorem Toks.drewN {w : World} {g cap n : Nat} {f : Nat → Int} (h : Toks w g cap n f) (q : Nat) : Toks (w.drewN q) g cap n f := h.kept ((Kept.refl (fun _ => False) _).drewN q) (fun h => h)

end Go.Proofs.Ytpfahgogjeignaa
