/-
  One gate at a time: plain reckoning.
-/
import Derived.Test.YtilffakkmjdmnabKeepH
set_option linter.unusedVariables false
set_option linter.unusedSimpArgs false
namespace Go.Proofs.Ytilffakkmjdmnab
open Go.RowKit

/-- What P14 rests on. -/
structure Gate (s : PC) : Prop where
  hold : ∀ i : Nat, i < 2 → s.now < s.til i → s.holder = (i : Int) ∧ s.epoch i = s.wepoch
  til : ∀ i : Nat, i < 2 → s.til i ≤ s.wtil
  alone : ∀ i : Nat, i < 2 → s.now < s.til i → s.alone i = true → s.solo = true
  wt : s.wtil ≤ s.now + s.lease

theorem gate_fresh (le wi : Int) (n : Nat) (R B : Nat → Int) (l0 : 1 ≤ le) : Gate (PC.fresh le wi n R B n 2 (-1)) :=
  ⟨fun i _ h => absurd h (Int.lt_irrefl 0), fun i _ => Int.le_refl 0, fun i _ h => absurd h (Int.lt_irrefl 0), by show (0 : Int) ≤ 0 + le; omega⟩
theorem gate_passed {s : PC} (h : Gate s) (t : Int) (t0 : 0 ≤ t) : Gate (s.passed t) := by
  have hn : (s.passed t).now = s.now + t := rfl
  refine ⟨fun i hi hl => h.hold i hi ?_, h.til, fun i hi hl => h.alone i hi ?_, ?_⟩
  · have : s.now + t < s.til i := hl
    omega
  · have : s.now + t < s.til i := hl
    omega
  · have := h.wt
    show s.wtil ≤ s.now + t + s.lease
    omega
theorem gate_linked {s : PC} (h : Gate s) (x y m : Int) : Gate (s.linked x y m) := ⟨h.hold, h.til, h.alone, h.wt⟩
theorem gate_started {s : PC} (h : Gate s) (i : Nat) : Gate (s.started i) := ⟨h.hold, h.til, h.alone, h.wt⟩
theorem gate_crashed {s : PC} (ok : s.Ok) (h : Gate s) (i : Nat) (w0 : 0 ≤ s.wtil) : Gate (s.crashed i) := by
  have n0 := ok.now0
  have ht : ∀ j, s.now < (s.crashed i).til j → j ≠ i ∧ s.now < s.til j := by
    intro j hj
    have hj' : s.now < upd s.til i 0 j := hj
    unfold upd at hj'
    split at hj'
    · omega
    · rename_i hne; exact ⟨hne, hj'⟩
  refine ⟨fun j hj hl => ?_, fun j hj => ?_, fun j hj hl ha => ?_, h.wt⟩
  · obtain ⟨hne, hl'⟩ := ht j hl
    have := h.hold j hj hl'
    refine ⟨this.1, ?_⟩
    show upd s.epoch i 0 j = s.wepoch
    rw [upd_other _ _ hne]
    exact this.2
  · show upd s.til i 0 j ≤ s.wtil
    unfold upd
    split
    · exact w0
    · exact h.til j hj
  · obtain ⟨hne, hl'⟩ := ht j hl
    have ha' : upd s.alone i false j = true := ha
    rw [upd_other _ _ hne] at ha'
    exact h.alone j hj hl' ha'
theorem gate_granted {s : PC} (ok : s.Ok) (h : Gate s) (i : Nat) (hi : i < 2) (hm : s.mayLead (i : Int) = true) : Gate (s.granted (i : Int)) ∧ (s.granted (i : Int)).holder = (i : Int) ∧ (s.granted (i : Int)).now = s.now ∧ (s.granted (i : Int)).wtil = s.now + s.lease := by
  have hwt := h.wt
  unfold PC.granted
  by_cases hh : s.holder = (i : Int)
  · rw [if_pos hh]
    refine ⟨⟨h.hold, fun j hj => ?_, h.alone, ?_⟩, hh, rfl, rfl⟩
    · have := h.til j hj
      show s.til j ≤ s.now + s.lease
      omega
    · show s.now + s.lease ≤ s.now + s.lease
      omega
  · rw [if_neg hh]
    have hno : ∀ j : Nat, j < 2 → ¬ s.now < s.til j := by
      intro j hj hl
      have h1 := h.hold j hj hl
      have h2 := h.til j hj
      unfold PC.mayLead at hm
      simp only [Bool.or_eq_true, Bool.and_eq_true, beq_iff_eq, decide_eq_true_eq] at hm
      rcases hm with (hm | hm) | hm
      · exact hh hm
      · rw [hm] at h1
        have := h1.1
        omega
      · omega
    refine ⟨⟨fun j hj hl => absurd hl (hno j hj), fun j hj => ?_, fun j hj hl => absurd hl (hno j hj), ?_⟩, rfl, rfl, rfl⟩
    · have := h.til j hj
      show s.til j ≤ s.now + s.lease
      omega
    · show s.now + s.lease ≤ s.now + s.lease
      omega
theorem gate_took {s : PC} (h : Gate s) (i : Nat) (hh : s.holder = (i : Int)) : Gate (s.took i) := by
  refine ⟨fun j hj hl => ?_, fun j hj => ?_, fun j hj hl ha => ?_, h.wt⟩
  · have hl' : s.now < upd s.til i s.wtil j := hl
    show s.holder = (j : Int) ∧ upd s.epoch i s.wepoch j = s.wepoch
    by_cases e : j = i
    · rw [e, upd_same]; exact ⟨hh, rfl⟩
    · rw [upd_other _ _ e] at hl' ⊢
      exact h.hold j hj hl'
  · show upd s.til i s.wtil j ≤ s.wtil
    by_cases e : j = i
    · rw [e, upd_same]; exact Int.le_refl _
    · rw [upd_other _ _ e]; exact h.til j hj
  · have hl' : s.now < upd s.til i s.wtil j := hl
    have ha' : upd s.alone i s.solo j = true := ha
    show s.solo = true
    by_cases e : j = i
    · rw [e, upd_same] at ha'; exact ha'
    · rw [upd_other _ _ e] at hl' ha'
      exact h.alone j hj hl' ha'
theorem gate_campaigned {s : PC} (ok : s.Ok) (h : Gate s) (i : Nat) (hi : i < 2) : Gate (s.campaigned (i : Int)).2 := by
  unfold PC.campaigned
  split
  · split
    · rename_i hm
      have hg := gate_granted ok h i hi hm
      split
      · rw [Int.toNat_natCast]
        exact gate_took hg.1 i hg.2.1
      · exact hg.1
    · exact h
  · exact h
/-- Who is left as he was. -/
theorem gate_of {s s' : PC} (h : Gate s) (h1 : s'.now = s.now) (h2 : s'.til = s.til) (h3 : s'.holder = s.holder) (h4 : s'.epoch = s.epoch) (h5 : s'.wepoch = s.wepoch) (h6 : s'.wtil = s.wtil) (h7 : s'.lease = s.lease) (h8 : ∀ i : Nat, i < 2 → s.now < s.til i → s'.alone i = true → s'.solo = true) : Gate s' := by
  refine ⟨?_, ?_, ?_, ?_⟩
  · rw [h1, h2, h3, h4, h5]; exact h.hold
  · rw [h2, h6]; exact h.til
  · rw [h1, h2]; exact h8
  · rw [h1, h6, h7]; exact h.wt
theorem gate_second {s : PC} (h : Gate s) (i : Nat) : Gate (s.second i).2 := by
  unfold PC.second
  dsimp only
  split
  · exact gate_of h rfl rfl rfl rfl rfl rfl rfl (fun _ _ _ _ => rfl)
  · split
    · exact gate_of h rfl rfl rfl rfl rfl rfl rfl (fun _ _ _ _ => rfl)
    · exact h
theorem gate_charged {s : PC} (h : Gate s) (i k : Nat) (amt : Int) : Gate (s.charged i k amt) := ⟨h.hold, h.til, h.alone, h.wt⟩
theorem gate_setWin {s : PC} (h : Gate s) (i k : Nat) (v : Int) : Gate (s.setWin i k v) := ⟨h.hold, h.til, h.alone, h.wt⟩
theorem gate_secured {s : PC} (h : Gate s) (i k : Nat) (amt : Int) : Gate (s.secured i k amt).2 := by
  unfold PC.secured
  split
  · exact h
  · split
    · exact gate_charged h _ _ _
    · split
      · exact gate_second (gate_charged h _ _ _) i
      · exact gate_second h i
theorem gate_asked {s : PC} (h : Gate s) (i k : Nat) (cost : Int) : Gate (s.asked i k cost).2 := by
  unfold PC.asked
  split
  · split
    · exact gate_setWin h _ _ _
    · split
      · exact h
      · split
        · exact gate_setWin (gate_charged (gate_secured h _ _ _) _ _ _) _ _ _
        · exact gate_secured h _ _ _
  · exact h
/-- Who has a lease is not touched by a request; it is answered Elsewhere just where there is none. -/
theorem second_who (s : PC) (i : Nat) : (s.second i).2.up = s.up ∧ (s.second i).2.til = s.til ∧ (s.second i).2.now = s.now := by
  unfold PC.second
  dsimp only
  split
  · exact ⟨rfl, rfl, rfl⟩
  · split <;> exact ⟨rfl, rfl, rfl⟩
theorem secured_who (s : PC) (i k : Nat) (amt : Int) : (s.secured i k amt).2.up = s.up ∧ (s.secured i k amt).2.til = s.til ∧ (s.secured i k amt).2.now = s.now := by
  unfold PC.secured
  split
  · exact ⟨rfl, rfl, rfl⟩
  · split
    · exact ⟨rfl, rfl, rfl⟩
    · split
      · exact second_who (s.charged (1 - i) k amt) i
      · exact second_who s i
theorem asked_who (s : PC) (i k : Nat) (cost : Int) : (s.asked i k cost).2.up = s.up ∧ (s.asked i k cost).2.til = s.til ∧ (s.asked i k cost).2.now = s.now ∧ ((s.asked i k cost).1 = 4 ↔ s.hasLease i = false) := by
  have hs := secured_who s i k (reserveOf (s.lev i k) (s.win i k) s.window cost)
  unfold PC.asked
  split
  · rename_i hl
    split
    · exact ⟨rfl, rfl, rfl, by simp [hl]⟩
    · split
      · exact ⟨rfl, rfl, rfl, by simp [hl]⟩
      · split
        · exact ⟨hs.1, hs.2.1, hs.2.2, by simp [hl]⟩
        · exact ⟨hs.1, hs.2.1, hs.2.2, by simp [hl]⟩
  · rename_i hl
    exact ⟨rfl, rfl, rfl, by simpa using hl⟩

/-- The witness's until is never below nought: for the crash. -/
structure Gate' (s : PC) : Prop where
  g : Gate s
  w0 : 0 ≤ s.wtil

theorem campaigned_w0 {s : PC} (ok : s.Ok) (w0 : 0 ≤ s.wtil) (i : Int) : 0 ≤ (s.campaigned i).2.wtil := by
  have n0 := ok.now0
  have l0 := ok.lease0
  have hg : 0 ≤ (s.granted i).wtil := by
    unfold PC.granted
    split
    · show 0 ≤ s.now + s.lease; omega
    · show 0 ≤ s.now + s.lease; omega
  unfold PC.campaigned
  split
  · split
    · split
      · exact hg
      · exact hg
    · exact w0
  · exact w0
theorem second_w (s : PC) (i : Nat) : (s.second i).2.wtil = s.wtil := by
  unfold PC.second
  dsimp only
  split
  · rfl
  · split <;> rfl
theorem asked_w (s : PC) (i k : Nat) (cost : Int) : (s.asked i k cost).2.wtil = s.wtil := by
  have hs : ∀ amt, (s.secured i k amt).2.wtil = s.wtil := by
    intro amt
    unfold PC.secured
    split
    · rfl
    · split
      · rfl
      · split
        · exact second_w (s.charged (1 - i) k amt) i
        · exact second_w s i
  unfold PC.asked
  split
  · split
    · rfl
    · split
      · rfl
      · split
        · exact hs _
        · exact hs _
  · rfl

theorem nat_of_node {i : Int} (h : isNodeB i = true) : ∃ j : Nat, j < 2 ∧ i = (j : Int) := by
  obtain ⟨h0, h2⟩ := node_bd h
  exact ⟨i.toNat, by omega, by omega⟩

theorem hasLease_til {s : PC} {i : Nat} (h : s.hasLease i = true) : s.now < s.til i := by
  unfold PC.hasLease at h
  simp at h
  exact h.2
theorem gate_unaloned {s : PC} (h : Gate' s) (i : Nat) : Gate' (s.unaloned i) := by
  refine ⟨gate_of h.g rfl rfl rfl rfl rfl rfl rfl (fun j hj hl ha => ?_), h.w0⟩
  have ha' : upd s.alone i false j = true := ha
  unfold upd at ha'
  split at ha'
  · cases ha'
  · exact h.g.alone j hj hl ha'
theorem gate_copied {s : PC} (h : Gate' s) (i : Nat) : Gate' (s.copied i) := ⟨⟨h.g.hold, h.g.til, h.g.alone, h.g.wt⟩, h.w0⟩
/-- Where the only one that has a lease does not act alone, solo may go. -/
theorem gate_unsoloed {s : PC} (h : Gate' s) (i : Nat) (hi : i < 2) (hl : s.now < s.til i) (ha : s.alone i = false) : Gate' s.unsoloed := by
  refine ⟨gate_of h.g rfl rfl rfl rfl rfl rfl rfl (fun j hj hlj haj => ?_), h.w0⟩
  have h1 := (h.g.hold i hi hl).1
  have h2 := (h.g.hold j hj hlj).1
  have e : j = i := by omega
  subst e
  have haj' : s.alone j = true := haj
  rw [ha] at haj'
  cases haj'
theorem gate_joined {s : PC} (h : Gate' s) (i : Nat) (hi : i < 2) : Gate' (s.joined i).2 := by
  unfold PC.joined PC.joinEnd
  split
  · rename_i hl
    have ht := hasLease_til hl
    have hc := gate_copied (gate_unaloned h i) i
    split
    · dsimp only
      split
      · refine gate_unsoloed hc i hi ht ?_
        show upd s.alone i false i = false
        exact upd_same _ _ _
      · exact hc
    · dsimp only
      split
      · exact hc
      · exact gate_unaloned h i
  · exact h
theorem gate_join {s : PC} (ok : s.Ok) (h : Gate' s) (i : Int) : Gate' (s.joinR i).2 ∧ (s.joinR i).2.Ok := by
  unfold PC.joinR
  split
  · rename_i hn
    obtain ⟨j, hj, rfl⟩ := nat_of_node hn
    rw [Int.toNat_natCast]
    split
    · exact ⟨gate_joined h j hj, joined_ok ok j⟩
    · exact ⟨h, ok⟩
  · exact ⟨h, ok⟩

theorem gate_passR {s : PC} (ok : s.Ok) (h : Gate' s) (x : Int) : Gate' (s.passR x).2 ∧ (s.passR x).2.Ok := by
  unfold PC.passR
  split
  · exact ⟨h, ok⟩
  · exact ⟨⟨gate_passed h.g x (by omega), h.w0⟩, passed_ok ok x (by omega) (by omega)⟩
theorem gate_linkR {s : PC} (ok : s.Ok) (h : Gate' s) (x y z : Int) : Gate' (s.linkR x y z).2 ∧ (s.linkR x y z).2.Ok := by
  unfold PC.linkR
  split
  · exact ⟨⟨gate_linked h.g x y z, h.w0⟩, ⟨ok.lease0, ok.lease1, ok.win0, ok.win1, ok.count0, ok.count1, ok.rate0, ok.rate1, ok.burst0, ok.burst1, ok.fits, ok.now0, ok.now1, ok.lev0, ok.lev1, ok.wn0, ok.wn1⟩⟩
  · exact ⟨h, ok⟩
theorem gate_crashR {s : PC} (ok : s.Ok) (h : Gate' s) (x : Int) : Gate' (s.crashR x).2 ∧ (s.crashR x).2.Ok := by
  unfold PC.crashR
  split
  · split
    · refine ⟨⟨gate_crashed ok h.g _ h.w0, h.w0⟩, ⟨ok.lease0, ok.lease1, ok.win0, ok.win1, ok.count0, ok.count1, ok.rate0, ok.rate1, ok.burst0, ok.burst1, ok.fits, ok.now0, ok.now1, ok.lev0, ok.lev1, ?_, ?_⟩⟩
      · intro j q
        show 0 ≤ upd s.win x.toNat (fun _ => 0) j q
        unfold upd
        split
        · exact Int.le_refl _
        · exact ok.wn0 j q
      · intro j q
        show upd s.win x.toNat (fun _ => 0) j q ≤ s.window
        unfold upd
        split
        · exact ok.win0
        · exact ok.wn1 j q
    · exact ⟨h, ok⟩
  · exact ⟨h, ok⟩
theorem gate_startR {s : PC} (ok : s.Ok) (h : Gate' s) (x : Int) : Gate' (s.startR x).2 ∧ (s.startR x).2.Ok := by
  unfold PC.startR
  split
  · split
    · exact ⟨h, ok⟩
    · exact ⟨⟨gate_started h.g _, h.w0⟩, ⟨ok.lease0, ok.lease1, ok.win0, ok.win1, ok.count0, ok.count1, ok.rate0, ok.rate1, ok.burst0, ok.burst1, ok.fits, ok.now0, ok.now1, ok.lev0, ok.lev1, ok.wn0, ok.wn1⟩⟩
  · exact ⟨h, ok⟩
theorem gate_campR {s : PC} (ok : s.Ok) (h : Gate' s) (x : Int) : Gate' (s.campR x).2 ∧ (s.campR x).2.Ok := by
  unfold PC.campR
  split
  · rename_i hn
    obtain ⟨j, hj, rfl⟩ := nat_of_node hn
    split
    · exact ⟨⟨gate_campaigned ok h.g j hj, campaigned_w0 ok h.w0 _⟩, campaigned_ok ok _⟩
    · exact ⟨h, ok⟩
  · exact ⟨h, ok⟩
theorem gate_askR {s : PC} (ok : s.Ok) (h : Gate' s) (x y z : Int) : Gate' (s.askR x y z).2 ∧ (s.askR x y z).2.Ok := by
  unfold PC.askR
  split
  · rename_i hw
    obtain ⟨_, _, _, c0, c1⟩ := pwrong_bd hw
    split
    · exact ⟨⟨gate_asked h.g _ _ _, by rw [asked_w]; exact h.w0⟩, asked_ok ok _ _ _ c0 c1⟩
    · exact ⟨h, ok⟩
  · exact ⟨h, ok⟩
/-- Every step keeps it. -/
theorem gate_call {s : PC} (ok : s.Ok) (h : Gate' s) (k x y z : Int) : Gate' (s.call k x y z).2 ∧ (s.call k x y z).2.Ok := by
  by_cases hk : k < 1 ∨ 12 < k
  · have e : s.call k x y z = (⟨0, 0, 0, 0, 0⟩, s) := by
      unfold PC.call
      rw [if_neg (by omega), if_neg (by omega), if_neg (by omega), if_neg (by omega), if_neg (by omega), if_neg (by omega), if_neg (by omega), if_neg (by omega), if_neg (by omega), if_neg (by omega), if_neg (by omega), if_neg (by omega)]
    rw [e]
    exact ⟨h, ok⟩
  · rcases (by omega : k = 1 ∨ k = 2 ∨ k = 3 ∨ k = 4 ∨ k = 5 ∨ k = 6 ∨ k = 7 ∨ k = 8 ∨ k = 9 ∨ k = 10 ∨ k = 11 ∨ k = 12) with rfl | rfl | rfl | rfl | rfl | rfl | rfl | rfl | rfl | rfl | rfl | rfl
    · exact gate_passR ok h x
    · exact gate_linkR ok h x y z
    · exact gate_crashR ok h x
    · exact gate_startR ok h x
    · exact gate_campR ok h x
    · exact gate_askR ok h x y z
    · exact gate_join ok h x
    · exact ⟨h, ok⟩
    · exact ⟨h, ok⟩
    · exact ⟨h, ok⟩
    · exact ⟨h, ok⟩
    · exact ⟨h, ok⟩

end Go.Proofs.Ytilffakkmjdmnab
