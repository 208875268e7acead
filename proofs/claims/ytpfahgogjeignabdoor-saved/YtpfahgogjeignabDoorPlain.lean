/-
  One step on a cluster in plain numbers; what holds behind every step: one gate at a time, how the time goes on, what comes right once all works again.
-/
import Derived.Test.YtpfahgogjeignabDoorProP
import Derived.Test.YtpfahgogjeignabDoorHand
set_option linter.unusedVariables false
set_option linter.unusedSimpArgs false
namespace Go.Proofs.YtpfahgogjeignabDoor
open Go.RowKit

def truthI (b : Bool) : Int := if b then 1 else 0
/-- An answer. -/
structure SaidR where
  a : Int
  b : Int
  c : Int
  d : Int
  e : Int
def SaidR.v (x : SaidR) : Value := .agg #[.int .i64 x.a, .int .i64 x.b, .int .i64 x.c, .int .i64 x.d, .int .i64 x.e]

/-- What a step answers, and what it leaves. -/
def PC.call (s : PC) (k x y z : Int) : SaidR × PC :=
  if k = 1 then (⟨0, 0, 0, 0, (s.passR x).1⟩, (s.passR x).2)
  else if k = 2 then (⟨0, 0, 0, 0, (s.linkR x y z).1⟩, (s.linkR x y z).2)
  else if k = 3 then (⟨0, 0, 0, 0, (s.crashR x).1⟩, (s.crashR x).2)
  else if k = 4 then (⟨0, 0, 0, 0, (s.startR x).1⟩, (s.startR x).2)
  else if k = 5 then (⟨(s.campR x).1.1, 0, 0, 0, (s.campR x).1.2⟩, (s.campR x).2)
  else if k = 6 then (⟨(s.askR x y z).1.1, 0, 0, 0, (s.askR x y z).1.2⟩, (s.askR x y z).2)
  else if k = 7 then (⟨(s.joinR x).1.1, 0, 0, 0, (s.joinR x).1.2⟩, (s.joinR x).2)
  else if k = 8 then (⟨(s.waitR x y z).1, 0, 0, 0, (s.waitR x y z).2⟩, s)
  else if k = 9 then (⟨s.now, 0, 0, 0, 0⟩, s)
  else if k = 10 then (⟨s.holder, s.wepoch, s.wtil, truthI s.solo, 0⟩, s)
  else if k = 11 then (⟨truthI (nB x (s.up x.toNat)), nI x (s.epoch x.toNat), nI x (s.til x.toNat), truthI (nB x (s.alone x.toNat)), nC x⟩, s)
  else if k = 12 then (⟨tI s x y (s.lev x.toNat y.toNat), tI s x y (s.win x.toNat y.toNat), 0, 0, tC s x y⟩, s)
  else (⟨0, 0, 0, 0, 0⟩, s)

end Go.Proofs.YtpfahgogjeignabDoor

namespace Go.Proofs.YtpfahgogjeignabDoor
open Go.RowKit

/-- What P14 rests on. -/
structure Gate (s : PC) : Prop where
  hold : ∀ i : Nat, i < 2 → s.now < s.til i → s.holder = (i : Int) ∧ s.epoch i = s.wepoch
  til : ∀ i : Nat, i < 2 → s.til i ≤ s.wtil
  alone : ∀ i : Nat, i < 2 → s.now < s.til i → s.alone i = true → s.solo = true
  wt : s.wtil ≤ s.now + s.lease

theorem gate_fresh (le wi : Int) (n : Nat) (R B : Nat → Int) (l0 : 1 ≤ le) : Gate (PC.fresh le wi n R B n 2 (-1)) :=
  ⟨fun i _ h => absurd h (Int.lt_irrefl 0), fun i _ => Int.le_refl 0, fun i _ h => absurd h (Int.lt_irrefl 0), by show (0 : Int) ≤ 0 + le; omega⟩
theorem gate_passed {s : PC} (h : Gate s) (t : Int) (t0 : 0 ≤ t) : Gate (s.passed t) := by
  have hn : (s.passed t).now = s.now + t := rfl
  refine ⟨fun i hi hl => h.hold i hi ?_, h.til, fun i hi hl => h.alone i hi ?_, ?_⟩
  · have : s.now + t < s.til i := hl
    omega
  · have : s.now + t < s.til i := hl
    omega
  · have := h.wt
    show s.wtil ≤ s.now + t + s.lease
    omega
theorem gate_linked {s : PC} (h : Gate s) (x y m : Int) : Gate (s.linked x y m) := ⟨h.hold, h.til, h.alone, h.wt⟩
theorem gate_started {s : PC} (h : Gate s) (i : Nat) : Gate (s.started i) := ⟨h.hold, h.til, h.alone, h.wt⟩
theorem gate_crashed {s : PC} (ok : s.Ok) (h : Gate s) (i : Nat) (w0 : 0 ≤ s.wtil) : Gate (s.crashed i) := by
  have n0 := ok.now0
  have ht : ∀ j, s.now < (s.crashed i).til j → j ≠ i ∧ s.now < s.til j := by
    intro j hj
    have hj' : s.now < upd s.til i 0 j := hj
    unfold upd at hj'
    split at hj'
    · omega
    · rename_i hne; exact ⟨hne, hj'⟩
  refine ⟨fun j hj hl => ?_, fun j hj => ?_, fun j hj hl ha => ?_, h.wt⟩
  · obtain ⟨hne, hl'⟩ := ht j hl
    have := h.hold j hj hl'
    refine ⟨this.1, ?_⟩
    show upd s.epoch i 0 j = s.wepoch
    rw [upd_other _ _ hne]
    exact this.2
  · show upd s.til i 0 j ≤ s.wtil
    unfold upd
    split
    · exact w0
    · exact h.til j hj
  · obtain ⟨hne, hl'⟩ := ht j hl
    have ha' : upd s.alone i false j = true := ha
    rw [upd_other _ _ hne] at ha'
    exact h.alone j hj hl' ha'
theorem gate_granted {s : PC} (ok : s.Ok) (h : Gate s) (i : Nat) (hi : i < 2) (hm : s.mayLead (i : Int) = true) : Gate (s.granted (i : Int)) ∧ (s.granted (i : Int)).holder = (i : Int) ∧ (s.granted (i : Int)).now = s.now ∧ (s.granted (i : Int)).wtil = s.now + s.lease := by
  have hwt := h.wt
  unfold PC.granted
  by_cases hh : s.holder = (i : Int)
  · rw [if_pos hh]
    refine ⟨⟨h.hold, fun j hj => ?_, h.alone, ?_⟩, hh, rfl, rfl⟩
    · have := h.til j hj
      show s.til j ≤ s.now + s.lease
      omega
    · show s.now + s.lease ≤ s.now + s.lease
      omega
  · rw [if_neg hh]
    have hno : ∀ j : Nat, j < 2 → ¬ s.now < s.til j := by
      intro j hj hl
      have h1 := h.hold j hj hl
      have h2 := h.til j hj
      unfold PC.mayLead at hm
      simp only [Bool.or_eq_true, Bool.and_eq_true, beq_iff_eq, decide_eq_true_eq] at hm
      rcases hm with (hm | hm) | hm
      · exact hh hm
      · rw [hm] at h1
        have := h1.1
        omega
      · omega
    refine ⟨⟨fun j hj hl => absurd hl (hno j hj), fun j hj => ?_, fun j hj hl => absurd hl (hno j hj), ?_⟩, rfl, rfl, rfl⟩
    · have := h.til j hj
      show s.til j ≤ s.now + s.lease
      omega
    · show s.now + s.lease ≤ s.now + s.lease
      omega
theorem gate_took {s : PC} (h : Gate s) (i : Nat) (hh : s.holder = (i : Int)) : Gate (s.took i) := by
  refine ⟨fun j hj hl => ?_, fun j hj => ?_, fun j hj hl ha => ?_, h.wt⟩
  · have hl' : s.now < upd s.til i s.wtil j := hl
    show s.holder = (j : Int) ∧ upd s.epoch i s.wepoch j = s.wepoch
    by_cases e : j = i
    · rw [e, upd_same]; exact ⟨hh, rfl⟩
    · rw [upd_other _ _ e] at hl' ⊢
      exact h.hold j hj hl'
  · show upd s.til i s.wtil j ≤ s.wtil
    by_cases e : j = i
    · rw [e, upd_same]; exact Int.le_refl _
    · rw [upd_other _ _ e]; exact h.til j hj
  · have hl' : s.now < upd s.til i s.wtil j := hl
    have ha' : upd s.alone i s.solo j = true := ha
    show s.solo = true
    by_cases e : j = i
    · rw [e, upd_same] at ha'; exact ha'
    · rw [upd_other _ _ e] at hl' ha'
      exact h.alone j hj hl' ha'
theorem gate_campaigned {s : PC} (ok : s.Ok) (h : Gate s) (i : Nat) (hi : i < 2) : Gate (s.campaigned (i : Int)).2 := by
  unfold PC.campaigned
  split
  · split
    · rename_i hm
      have hg := gate_granted ok h i hi hm
      split
      · rw [Int.toNat_natCast]
        exact gate_took hg.1 i hg.2.1
      · exact hg.1
    · exact h
  · exact h
/-- Who is left as he was. -/
theorem gate_of {s s' : PC} (h : Gate s) (h1 : s'.now = s.now) (h2 : s'.til = s.til) (h3 : s'.holder = s.holder) (h4 : s'.epoch = s.epoch) (h5 : s'.wepoch = s.wepoch) (h6 : s'.wtil = s.wtil) (h7 : s'.lease = s.lease) (h8 : ∀ i : Nat, i < 2 → s.now < s.til i → s'.alone i = true → s'.solo = true) : Gate s' := by
  refine ⟨?_, ?_, ?_, ?_⟩
  · rw [h1, h2, h3, h4, h5]; exact h.hold
  · rw [h2, h6]; exact h.til
  · rw [h1, h2]; exact h8
  · rw [h1, h6, h7]; exact h.wt
theorem gate_second {s : PC} (h : Gate s) (i : Nat) : Gate (s.second i).2 := by
  unfold PC.second
  dsimp only
  split
  · exact gate_of h rfl rfl rfl rfl rfl rfl rfl (fun _ _ _ _ => rfl)
  · split
    · exact gate_of h rfl rfl rfl rfl rfl rfl rfl (fun _ _ _ _ => rfl)
    · exact h
theorem gate_charged {s : PC} (h : Gate s) (i k : Nat) (amt : Int) : Gate (s.charged i k amt) := ⟨h.hold, h.til, h.alone, h.wt⟩
theorem gate_setWin {s : PC} (h : Gate s) (i k : Nat) (v : Int) : Gate (s.setWin i k v) := ⟨h.hold, h.til, h.alone, h.wt⟩
theorem gate_secured {s : PC} (h : Gate s) (i k : Nat) (amt : Int) : Gate (s.secured i k amt).2 := by
  unfold PC.secured
  split
  · exact h
  · split
    · exact gate_charged h _ _ _
    · split
      · exact gate_second (gate_charged h _ _ _) i
      · exact gate_second h i
theorem gate_asked {s : PC} (h : Gate s) (i k : Nat) (cost : Int) : Gate (s.asked i k cost).2 := by
  unfold PC.asked
  split
  · split
    · exact gate_setWin h _ _ _
    · split
      · exact h
      · split
        · exact gate_setWin (gate_charged (gate_secured h _ _ _) _ _ _) _ _ _
        · exact gate_secured h _ _ _
  · exact h
/-- Who has a lease is not touched by a request; it is answered Elsewhere just where there is none. -/
theorem second_who (s : PC) (i : Nat) : (s.second i).2.up = s.up ∧ (s.second i).2.til = s.til ∧ (s.second i).2.now = s.now := by
  unfold PC.second
  dsimp only
  split
  · exact ⟨rfl, rfl, rfl⟩
  · split <;> exact ⟨rfl, rfl, rfl⟩
theorem secured_who (s : PC) (i k : Nat) (amt : Int) : (s.secured i k amt).2.up = s.up ∧ (s.secured i k amt).2.til = s.til ∧ (s.secured i k amt).2.now = s.now := by
  unfold PC.secured
  split
  · exact ⟨rfl, rfl, rfl⟩
  · split
    · exact ⟨rfl, rfl, rfl⟩
    · split
      · exact second_who (s.charged (1 - i) k amt) i
      · exact second_who s i
theorem asked_who (s : PC) (i k : Nat) (cost : Int) : (s.asked i k cost).2.up = s.up ∧ (s.asked i k cost).2.til = s.til ∧ (s.asked i k cost).2.now = s.now ∧ ((s.asked i k cost).1 = 4 ↔ s.hasLease i = false) := by
  have hs := secured_who s i k (reserveOf (s.lev i k) (s.win i k) s.window cost)
  unfold PC.asked
  split
  · rename_i hl
    split
    · exact ⟨rfl, rfl, rfl, by simp [hl]⟩
    · split
      · exact ⟨rfl, rfl, rfl, by simp [hl]⟩
      · split
        · exact ⟨hs.1, hs.2.1, hs.2.2, by simp [hl]⟩
        · exact ⟨hs.1, hs.2.1, hs.2.2, by simp [hl]⟩
  · rename_i hl
    exact ⟨rfl, rfl, rfl, by simpa using hl⟩

/-- The witness's until is never below nought: for the crash. -/
structure Gate' (s : PC) : Prop where
  g : Gate s
  w0 : 0 ≤ s.wtil

theorem campaigned_w0 {s : PC} (ok : s.Ok) (w0 : 0 ≤ s.wtil) (i : Int) : 0 ≤ (s.campaigned i).2.wtil := by
  have n0 := ok.now0
  have l0 := ok.lease0
  have hg : 0 ≤ (s.granted i).wtil := by
    unfold PC.granted
    split
    · show 0 ≤ s.now + s.lease; omega
    · show 0 ≤ s.now + s.lease; omega
  unfold PC.campaigned
  split
  · split
    · split
      · exact hg
      · exact hg
    · exact w0
  · exact w0
theorem second_w (s : PC) (i : Nat) : (s.second i).2.wtil = s.wtil := by
  unfold PC.second
  dsimp only
  split
  · rfl
  · split <;> rfl
theorem asked_w (s : PC) (i k : Nat) (cost : Int) : (s.asked i k cost).2.wtil = s.wtil := by
  have hs : ∀ amt, (s.secured i k amt).2.wtil = s.wtil := by
    intro amt
    unfold PC.secured
    split
    · rfl
    · split
      · rfl
      · split
        · exact second_w (s.charged (1 - i) k amt) i
        · exact second_w s i
  unfold PC.asked
  split
  · split
    · rfl
    · split
      · rfl
      · split
        · exact hs _
        · exact hs _
  · rfl

theorem nat_of_node {i : Int} (h : isNodeB i = true) : ∃ j : Nat, j < 2 ∧ i = (j : Int) := by
  obtain ⟨h0, h2⟩ := node_bd h
  exact ⟨i.toNat, by omega, by omega⟩

theorem hasLease_til {s : PC} {i : Nat} (h : s.hasLease i = true) : s.now < s.til i := by
  unfold PC.hasLease at h
  simp at h
  exact h.2
theorem gate_unaloned {s : PC} (h : Gate' s) (i : Nat) : Gate' (s.unaloned i) := by
  refine ⟨gate_of h.g rfl rfl rfl rfl rfl rfl rfl (fun j hj hl ha => ?_), h.w0⟩
  have ha' : upd s.alone i false j = true := ha
  unfold upd at ha'
  split at ha'
  · cases ha'
  · exact h.g.alone j hj hl ha'
theorem gate_copied {s : PC} (h : Gate' s) (i : Nat) : Gate' (s.copied i) := ⟨⟨h.g.hold, h.g.til, h.g.alone, h.g.wt⟩, h.w0⟩
/-- Where the only one that has a lease does not act alone, solo may go. -/
theorem gate_unsoloed {s : PC} (h : Gate' s) (i : Nat) (hi : i < 2) (hl : s.now < s.til i) (ha : s.alone i = false) : Gate' s.unsoloed := by
  refine ⟨gate_of h.g rfl rfl rfl rfl rfl rfl rfl (fun j hj hlj haj => ?_), h.w0⟩
  have h1 := (h.g.hold i hi hl).1
  have h2 := (h.g.hold j hj hlj).1
  have e : j = i := by omega
  subst e
  have haj' : s.alone j = true := haj
  rw [ha] at haj'
  cases haj'
theorem gate_joined {s : PC} (h : Gate' s) (i : Nat) (hi : i < 2) : Gate' (s.joined i).2 := by
  unfold PC.joined PC.joinEnd
  split
  · rename_i hl
    have ht := hasLease_til hl
    have hc := gate_copied (gate_unaloned h i) i
    split
    · dsimp only
      split
      · refine gate_unsoloed hc i hi ht ?_
        show upd s.alone i false i = false
        exact upd_same _ _ _
      · exact hc
    · dsimp only
      split
      · exact hc
      · exact gate_unaloned h i
  · exact h
theorem gate_join {s : PC} (ok : s.Ok) (h : Gate' s) (i : Int) : Gate' (s.joinR i).2 ∧ (s.joinR i).2.Ok := by
  unfold PC.joinR
  split
  · rename_i hn
    obtain ⟨j, hj, rfl⟩ := nat_of_node hn
    rw [Int.toNat_natCast]
    split
    · exact ⟨gate_joined h j hj, joined_ok ok j⟩
    · exact ⟨h, ok⟩
  · exact ⟨h, ok⟩

theorem gate_passR {s : PC} (ok : s.Ok) (h : Gate' s) (x : Int) : Gate' (s.passR x).2 ∧ (s.passR x).2.Ok := by
  unfold PC.passR
  split
  · exact ⟨h, ok⟩
  · exact ⟨⟨gate_passed h.g x (by omega), h.w0⟩, passed_ok ok x (by omega) (by omega)⟩
theorem gate_linkR {s : PC} (ok : s.Ok) (h : Gate' s) (x y z : Int) : Gate' (s.linkR x y z).2 ∧ (s.linkR x y z).2.Ok := by
  unfold PC.linkR
  split
  · exact ⟨⟨gate_linked h.g x y z, h.w0⟩, ⟨ok.lease0, ok.lease1, ok.win0, ok.win1, ok.count0, ok.count1, ok.rate0, ok.rate1, ok.burst0, ok.burst1, ok.fits, ok.now0, ok.now1, ok.lev0, ok.lev1, ok.wn0, ok.wn1⟩⟩
  · exact ⟨h, ok⟩
theorem gate_crashR {s : PC} (ok : s.Ok) (h : Gate' s) (x : Int) : Gate' (s.crashR x).2 ∧ (s.crashR x).2.Ok := by
  unfold PC.crashR
  split
  · split
    · refine ⟨⟨gate_crashed ok h.g _ h.w0, h.w0⟩, ⟨ok.lease0, ok.lease1, ok.win0, ok.win1, ok.count0, ok.count1, ok.rate0, ok.rate1, ok.burst0, ok.burst1, ok.fits, ok.now0, ok.now1, ok.lev0, ok.lev1, ?_, ?_⟩⟩
      · intro j q
        show 0 ≤ upd s.win x.toNat (fun _ => 0) j q
        unfold upd
        split
        · exact Int.le_refl _
        · exact ok.wn0 j q
      · intro j q
        show upd s.win x.toNat (fun _ => 0) j q ≤ s.window
        unfold upd
        split
        · exact ok.win0
        · exact ok.wn1 j q
    · exact ⟨h, ok⟩
  · exact ⟨h, ok⟩
theorem gate_startR {s : PC} (ok : s.Ok) (h : Gate' s) (x : Int) : Gate' (s.startR x).2 ∧ (s.startR x).2.Ok := by
  unfold PC.startR
  split
  · split
    · exact ⟨h, ok⟩
    · exact ⟨⟨gate_started h.g _, h.w0⟩, ⟨ok.lease0, ok.lease1, ok.win0, ok.win1, ok.count0, ok.count1, ok.rate0, ok.rate1, ok.burst0, ok.burst1, ok.fits, ok.now0, ok.now1, ok.lev0, ok.lev1, ok.wn0, ok.wn1⟩⟩
  · exact ⟨h, ok⟩
theorem gate_campR {s : PC} (ok : s.Ok) (h : Gate' s) (x : Int) : Gate' (s.campR x).2 ∧ (s.campR x).2.Ok := by
  unfold PC.campR
  split
  · rename_i hn
    obtain ⟨j, hj, rfl⟩ := nat_of_node hn
    split
    · exact ⟨⟨gate_campaigned ok h.g j hj, campaigned_w0 ok h.w0 _⟩, campaigned_ok ok _⟩
    · exact ⟨h, ok⟩
  · exact ⟨h, ok⟩
theorem gate_askR {s : PC} (ok : s.Ok) (h : Gate' s) (x y z : Int) : Gate' (s.askR x y z).2 ∧ (s.askR x y z).2.Ok := by
  unfold PC.askR
  split
  · rename_i hw
    obtain ⟨_, _, _, c0, c1⟩ := pwrong_bd hw
    split
    · exact ⟨⟨gate_asked h.g _ _ _, by rw [asked_w]; exact h.w0⟩, asked_ok ok _ _ _ c0 c1⟩
    · exact ⟨h, ok⟩
  · exact ⟨h, ok⟩
/-- Every step keeps it. -/
theorem gate_call {s : PC} (ok : s.Ok) (h : Gate' s) (k x y z : Int) : Gate' (s.call k x y z).2 ∧ (s.call k x y z).2.Ok := by
  by_cases hk : k < 1 ∨ 12 < k
  · have e : s.call k x y z = (⟨0, 0, 0, 0, 0⟩, s) := by
      unfold PC.call
      rw [if_neg (by omega), if_neg (by omega), if_neg (by omega), if_neg (by omega), if_neg (by omega), if_neg (by omega), if_neg (by omega), if_neg (by omega), if_neg (by omega), if_neg (by omega), if_neg (by omega), if_neg (by omega)]
    rw [e]
    exact ⟨h, ok⟩
  · rcases (by omega : k = 1 ∨ k = 2 ∨ k = 3 ∨ k = 4 ∨ k = 5 ∨ k = 6 ∨ k = 7 ∨ k = 8 ∨ k = 9 ∨ k = 10 ∨ k = 11 ∨ k = 12) with rfl | rfl | rfl | rfl | rfl | rfl | rfl | rfl | rfl | rfl | rfl | rfl
    · exact gate_passR ok h x
    · exact gate_linkR ok h x y z
    · exact gate_crashR ok h x
    · exact gate_startR ok h x
    · exact gate_campR ok h x
    · exact gate_askR ok h x y z
    · exact gate_join ok h x
    · exact ⟨h, ok⟩
    · exact ⟨h, ok⟩
    · exact ⟨h, ok⟩
    · exact ⟨h, ok⟩
    · exact ⟨h, ok⟩

end Go.Proofs.YtpfahgogjeignabDoor

namespace Go.Proofs.YtpfahgogjeignabDoor
open Go.RowKit

/-- How the time goes on. -/
theorem campaigned_now (s : PC) (i : Int) : (s.campaigned i).2.now = s.now := by
  have hg : (s.granted i).now = s.now := by
    unfold PC.granted
    split <;> rfl
  unfold PC.campaigned
  split
  · split
    · split
      · exact hg
      · exact hg
    · rfl
  · rfl
theorem joined_now (s : PC) (i : Nat) : (s.joined i).2.now = s.now := by
  unfold PC.joined PC.joinEnd
  split
  · split
    · dsimp only
      split <;> rfl
    · dsimp only
      split <;> rfl
  · rfl
theorem join_now (s : PC) (i : Int) : (s.joinR i).2.now = s.now := by
  unfold PC.joinR
  split
  · split
    · exact joined_now s _
    · rfl
  · rfl
theorem call_now (s : PC) (k x y z : Int) (h : ¬ (k = 1 ∧ (s.call k x y z).1.e = 0)) : (s.call k x y z).2.now = s.now := by
  by_cases hk : k < 1 ∨ 12 < k
  · have e : s.call k x y z = (⟨0, 0, 0, 0, 0⟩, s) := by
      unfold PC.call
      rw [if_neg (by omega), if_neg (by omega), if_neg (by omega), if_neg (by omega), if_neg (by omega), if_neg (by omega), if_neg (by omega), if_neg (by omega), if_neg (by omega), if_neg (by omega), if_neg (by omega), if_neg (by omega)]
    rw [e]
  · rcases (by omega : k = 1 ∨ k = 2 ∨ k = 3 ∨ k = 4 ∨ k = 5 ∨ k = 6 ∨ k = 7 ∨ k = 8 ∨ k = 9 ∨ k = 10 ∨ k = 11 ∨ k = 12) with rfl | rfl | rfl | rfl | rfl | rfl | rfl | rfl | rfl | rfl | rfl | rfl
    · have h' : ¬ (s.passR x).1 = 0 := fun e => h ⟨rfl, e⟩
      show (s.passR x).2.now = s.now
      unfold PC.passR at h' ⊢
      split
      · rfl
      · rename_i hn
        rw [if_neg hn] at h'
        exact absurd rfl h'
    · show (s.linkR x y z).2.now = s.now
      unfold PC.linkR
      split <;> rfl
    · show (s.crashR x).2.now = s.now
      unfold PC.crashR
      split
      · split <;> rfl
      · rfl
    · show (s.startR x).2.now = s.now
      unfold PC.startR
      split
      · split <;> rfl
      · rfl
    · show (s.campR x).2.now = s.now
      unfold PC.campR
      split
      · split
        · exact campaigned_now s x
        · rfl
      · rfl
    · show (s.askR x y z).2.now = s.now
      unfold PC.askR
      split
      · split
        · exact (asked_who s _ _ _).2.2.1
        · rfl
      · rfl
    · exact join_now s x
    · rfl
    · rfl
    · rfl
    · rfl
    · rfl
theorem call_pass (s : PC) (x y z : Int) (h : (s.call 1 x y z).1.e = 0) : 0 ≤ x ∧ x ≤ 1000000000000 - s.now ∧ (s.call 1 x y z).2.now = s.now + x := by
  have h' : (s.passR x).1 = 0 := h
  show 0 ≤ x ∧ x ≤ 1000000000000 - s.now ∧ (s.passR x).2.now = s.now + x
  unfold PC.passR at h' ⊢
  by_cases hn : x < 0 ∨ 1000000000000 - s.now < x
  · rw [if_pos hn] at h'; cases h'
  · rw [if_neg hn]
    exact ⟨by omega, by omega, rfl⟩
/-- A request that was answered: who has a lease behind it. -/
theorem call_ask (s : PC) (x y z : Int) (h : (s.call 6 x y z).1.e = 0) : isNodeB x = true ∧ ((s.call 6 x y z).1.a = 4 ↔ (s.call 6 x y z).2.hasLease x.toNat = false) := by
  have h' : (s.askR x y z).1.2 = 0 := h
  show isNodeB x = true ∧ ((s.askR x y z).1.1 = 4 ↔ (s.askR x y z).2.hasLease x.toNat = false)
  unfold PC.askR at h' ⊢
  by_cases hw : s.wrong x y z = 0
  · rw [if_pos hw] at h' ⊢
    refine ⟨(pwrong_bd hw).1, ?_⟩
    cases hu : s.up x.toNat
    · rw [hu] at h'
      cases h'
    · have ha := asked_who s x.toNat y.toNat z
      show (s.asked x.toNat y.toNat z).1 = 4 ↔ (s.asked x.toNat y.toNat z).2.hasLease x.toNat = false
      have e : (s.asked x.toNat y.toNat z).2.hasLease x.toNat = s.hasLease x.toNat := by
        unfold PC.hasLease
        rw [ha.1, ha.2.1, ha.2.2.1]
      rw [e]
      exact ha.2.2.2
  · rw [if_neg hw] at h'
    exact absurd h' hw

end Go.Proofs.YtpfahgogjeignabDoor

namespace Go.Proofs.YtpfahgogjeignabDoor
open Go.RowKit

/-- All is up, all links work, node i is the holder and knows the epoch. -/
structure Held (s : PC) (i : Nat) : Prop where
  ok : s.Ok
  gate : Gate' s
  up : ∀ j, j < 2 → s.up j = true
  link : ∀ j, j < 3 → s.link j = 0
  holder : s.holder = (i : Int)
  epoch : s.epoch i = s.wepoch

theorem held_arrives {s : PC} {i : Nat} (up : ∀ j, j < 2 → s.up j = true) (link : ∀ j, j < 3 → s.link j = 0) (hi : i < 2) : s.arrives i 2 = true ∧ s.answered i 2 = true ∧ s.arrives i (1 - i) = true ∧ s.answered i (1 - i) = true := by
  unfold PC.answered PC.arrives
  rw [link (i + 2 - 1) (by omega), link (i + (1 - i) - 1) (by omega), up (1 - i) (by omega)]
  simp
theorem held_passed {s : PC} {i : Nat} (h : Held s i) (t : Int) (t0 : 0 ≤ t) (t1 : t ≤ 1000000000000 - s.now) : Held (s.passed t) i :=
  ⟨passed_ok h.ok t t0 t1, ⟨gate_passed h.gate.g t t0, h.gate.w0⟩, h.up, h.link, h.holder, h.epoch⟩
/-- The holder is granted the lease anew; its windows stay. -/
theorem held_campaigned {s : PC} {i : Nat} (h : Held s i) (hi : i < 2) : (s.campaigned (i : Int)).1 = 1 ∧ Held (s.campaigned (i : Int)).2 i ∧ (s.campaigned (i : Int)).2.hasLease i = true ∧ (s.campaigned (i : Int)).2.lev = s.lev ∧ (s.campaigned (i : Int)).2.win = s.win ∧ (s.campaigned (i : Int)).2.now = s.now ∧ (s.campaigned (i : Int)).2.solo = s.solo ∧ (s.campaigned (i : Int)).2.wtil = s.now + s.lease ∧ (s.campaigned (i : Int)).2.window = s.window ∧ (s.campaigned (i : Int)).2.count = s.count ∧ (s.campaigned (i : Int)).2.rate = s.rate ∧ (s.campaigned (i : Int)).2.burst = s.burst ∧ (s.campaigned (i : Int)).2.lease = s.lease := by
  obtain ⟨a1, a2, _, _⟩ := held_arrives h.up h.link hi
  have hm : s.mayLead (i : Int) = true := by
    unfold PC.mayLead
    rw [h.holder]
    simp
  have hg := gate_granted h.ok h.gate.g i hi hm
  have e1 : s.granted (i : Int) = { s with wtil := s.now + s.lease } := by
    unfold PC.granted
    rw [if_pos h.holder]
  have e : s.campaigned (i : Int) = (1, (s.granted (i : Int)).took i) := by
    unfold PC.campaigned
    rw [Int.toNat_natCast, if_pos a1, if_pos hm, if_pos a2]
  have ok2 := campaigned_ok h.ok (i : Int)
  have w2 := campaigned_w0 h.ok h.gate.w0 (i : Int)
  have gt := gate_took hg.1 i hg.2.1
  rw [e] at ok2 w2
  rw [e1] at ok2 w2 gt
  rw [e, e1]
  have hep : ({ s with wtil := s.now + s.lease } : PC).epoch i = ({ s with wtil := s.now + s.lease } : PC).wepoch := h.epoch
  have l0 := h.ok.lease0
  refine ⟨rfl, ⟨ok2, ⟨gt, w2⟩, h.up, h.link, h.holder, ?_⟩, ?_, rfl, ?_, rfl, rfl, rfl, rfl, rfl, rfl, rfl, rfl⟩
  · show upd s.epoch i s.wepoch i = s.wepoch
    exact upd_same _ _ _
  · unfold PC.hasLease
    show (s.up i && decide (s.now < upd s.til i (s.now + s.lease) i)) = true
    rw [upd_same, h.up i hi]
    simp
    omega
  · show (if s.epoch i = s.wepoch then s.win else upd s.win i (fun _ => 0)) = s.win
    rw [if_pos h.epoch]

/-- What is secured is secured where all works: nothing but levels turns. -/
theorem held_secured {s : PC} {i : Nat} (up : ∀ j, j < 2 → s.up j = true) (link : ∀ j, j < 3 → s.link j = 0) (hi : i < 2) (k : Nat) (amt : Int) : (s.secured i k amt).1 = true ∧ ((s.secured i k amt).2 = s ∨ (s.secured i k amt).2 = s.charged (1 - i) k amt) := by
  obtain ⟨_, _, _, a4⟩ := held_arrives up link hi
  unfold PC.secured
  split
  · exact ⟨rfl, .inl rfl⟩
  · exact ⟨rfl, .inr rfl⟩
/-- A request where all works: Admit or Deny, by the level and the window. -/
theorem held_asked {s : PC} {i : Nat} (h : Held s i) (hi : i < 2) (hl : s.hasLease i = true) (k : Nat) (cost : Int) (c0 : 1 ≤ cost) (c1 : cost ≤ 2000000) :
    (s.lev i k < cost - s.win i k → s.asked i k cost = (6, s)) ∧ (¬ s.lev i k < cost - s.win i k → (s.asked i k cost).1 = 5) ∧ Held (s.asked i k cost).2 i ∧ (s.asked i k cost).2.hasLease i = true ∧ (s.asked i k cost).2.solo = s.solo ∧ (s.asked i k cost).2.wtil = s.wtil ∧ (s.asked i k cost).2.now = s.now ∧ (s.asked i k cost).2.count = s.count ∧ (s.asked i k cost).2.lease = s.lease ∧ (s.asked i k cost).2.alone = s.alone := by
  have l0 := h.ok.lev0 i k
  have hs := held_secured (i := i) h.up h.link hi k (reserveOf (s.lev i k) (s.win i k) s.window cost)
  have ok2 := asked_ok h.ok i k cost c0 c1
  have g2 := gate_asked h.gate.g i k cost
  have w2 := asked_w s i k cost
  have who := asked_who s i k cost
  have hlk : (s.asked i k cost).2.hasLease i = true := by
    unfold PC.hasLease at hl ⊢
    rw [who.1, who.2.1, who.2.2.1]
    exact hl
  have hd : s.lev i k < cost - s.win i k → s.asked i k cost = (6, s) := by
    intro hd
    unfold PC.asked
    rw [if_pos hl, if_neg (by omega), if_pos hd]
  have ha : ¬ s.lev i k < cost - s.win i k → (s.asked i k cost).1 = 5 := by
    intro hn
    unfold PC.asked
    rw [if_pos hl]
    split
    · rfl
    · rw [if_pos hs.1]
  have keep : (s.asked i k cost).2.link = s.link ∧ (s.asked i k cost).2.holder = s.holder ∧ (s.asked i k cost).2.epoch = s.epoch ∧ (s.asked i k cost).2.wepoch = s.wepoch ∧ (s.asked i k cost).2.solo = s.solo ∧ (s.asked i k cost).2.count = s.count ∧ (s.asked i k cost).2.lease = s.lease ∧ (s.asked i k cost).2.alone = s.alone := by
    unfold PC.asked
    rw [if_pos hl]
    split
    · exact ⟨rfl, rfl, rfl, rfl, rfl, rfl, rfl, rfl⟩
    · split
      · exact ⟨rfl, rfl, rfl, rfl, rfl, rfl, rfl, rfl⟩
      · rw [if_pos hs.1]
        rcases hs.2 with e | e <;> rw [e] <;> exact ⟨rfl, rfl, rfl, rfl, rfl, rfl, rfl, rfl⟩
  obtain ⟨q1, q2, q3, q4, q5, q6, q7, q8⟩ := keep
  refine ⟨hd, ha, ⟨ok2, ⟨g2, by rw [w2]; exact h.gate.w0⟩, by rw [who.1]; exact h.up, by rw [q1]; exact h.link, by rw [q2]; exact h.holder, by rw [q3, q4]; exact h.epoch⟩, hlk, q5, w2, who.2.2.1, q6, q7, q8⟩

/-- Who may be the holder. -/
def Who (s : PC) : Prop := s.holder = -1 ∨ s.holder = 0 ∨ s.holder = 1
/-- Node i is granted a lease where all is up and works. -/
theorem given_held {s : PC} (ok : s.Ok) (g : Gate' s) (up : ∀ j, j < 2 → s.up j = true) (link : ∀ j, j < 3 → s.link j = 0) (i : Nat) (hi : i < 2) (hm : s.mayLead (i : Int) = true) : (s.campaigned (i : Int)).1 = 1 ∧ Held (s.campaigned (i : Int)).2 i ∧ (s.campaigned (i : Int)).2.hasLease i = true := by
  obtain ⟨a1, a2, _, _⟩ := held_arrives up link hi
  have hg := gate_granted ok g.g i hi hm
  have e : s.campaigned (i : Int) = (1, (s.granted (i : Int)).took i) := by
    unfold PC.campaigned
    rw [Int.toNat_natCast, if_pos a1, if_pos hm, if_pos a2]
  have ok2 := campaigned_ok ok (i : Int)
  have w2 := campaigned_w0 ok g.w0 (i : Int)
  have gt := gate_took hg.1 i hg.2.1
  rw [e] at ok2 w2
  rw [e]
  have kp : (s.granted (i : Int)).up = s.up ∧ (s.granted (i : Int)).link = s.link := by
    unfold PC.granted
    split <;> exact ⟨rfl, rfl⟩
  have l0 := ok.lease0
  refine ⟨rfl, ⟨ok2, ⟨gt, w2⟩, ?_, ?_, hg.2.1, ?_⟩, ?_⟩
  · show ∀ j, j < 2 → (s.granted (i : Int)).up j = true
    rw [kp.1]; exact up
  · show ∀ j, j < 3 → (s.granted (i : Int)).link j = 0
    rw [kp.2]; exact link
  · show upd (s.granted (i : Int)).epoch i (s.granted (i : Int)).wepoch i = (s.granted (i : Int)).wepoch
    exact upd_same _ _ _
  · unfold PC.hasLease
    show ((s.granted (i : Int)).up i && decide ((s.granted (i : Int)).now < upd (s.granted (i : Int)).til i (s.granted (i : Int)).wtil i)) = true
    rw [upd_same, kp.1, up i hi, hg.2.2.1, hg.2.2.2]
    simp
    omega
/-- Once all works and the leases have run out: node 0 is granted it, or it is refused, and node 1 is. -/
theorem heals {s : PC} (ok : s.Ok) (g : Gate' s) (who : Who s) (up : ∀ j, j < 2 → s.up j = true) (link : ∀ j, j < 3 → s.link j = 0) (hw : s.wtil ≤ s.now) :
    ((s.campaigned 0).1 = 1 ∧ Held (s.campaigned 0).2 0 ∧ (s.campaigned 0).2.hasLease 0 = true) ∨ (s.campaigned 0 = (2, s) ∧ (s.campaigned 1).1 = 1 ∧ Held (s.campaigned 1).2 1 ∧ (s.campaigned 1).2.hasLease 1 = true) := by
  cases hm : s.mayLead 0
  · refine .inr ⟨?_, given_held ok g up link 1 (by omega) ?_⟩
    · obtain ⟨a1, a2, _, _⟩ := held_arrives (i := 0) up link (by omega)
      unfold PC.campaigned
      rw [show (0 : Int).toNat = 0 from rfl, if_pos a1, hm, if_neg (by simp), if_pos a2]
    · unfold PC.mayLead at hm ⊢
      simp at hm
      rcases who with e | e | e
      · exact absurd e hm.1.2
      · exact absurd e hm.1.1
      · simp [e]
  · exact .inl (given_held ok g up link 0 (by omega) hm)

end Go.Proofs.YtpfahgogjeignabDoor

namespace Go.Proofs.YtpfahgogjeignabDoor
open Go.RowKit

theorem passed_lev {s : PC} (t : Int) (i k : Nat) (hi : i < 2) (hk : (k : Int) < s.count) : (s.passed t).lev i k = s.grown k (s.lev i k) t := by
  show (if _ then _ else _ : Int) = _
  rw [if_pos ⟨hk, hi⟩]
/-- A join where all works. -/
theorem held_joined {s : PC} {i : Nat} (h : Held s i) (hi : i < 2) (hl : s.hasLease i = true) :
    (s.joined i).1 = 3 ∧ Held (s.joined i).2 i ∧ (s.joined i).2.hasLease i = true ∧ (s.joined i).2.solo = false ∧ (s.joined i).2.lev (1 - i) = s.lev i ∧ (s.joined i).2.lev i = s.lev i ∧ (s.joined i).2.wtil = s.wtil ∧ (s.joined i).2.now = s.now ∧ (s.joined i).2.count = s.count ∧ (s.joined i).2.lease = s.lease ∧ (s.joined i).2.alone i = false := by
  obtain ⟨_, _, _, a4⟩ := held_arrives h.up h.link hi
  have b := held_arrives (s := (s.unaloned i).copied i) (i := i) h.up h.link hi
  have e : s.joined i = (3, ((s.unaloned i).copied i).unsoloed) := by
    unfold PC.joined
    rw [if_pos hl, if_pos a4]
    unfold PC.joinEnd
    rw [if_pos b.2.1, if_pos b.1]
  have ok2 := joined_ok h.ok i
  have g2 := gate_joined h.gate i hi
  rw [e] at ok2 g2
  rw [e]
  refine ⟨rfl, ⟨ok2, g2, h.up, h.link, h.holder, h.epoch⟩, hl, rfl, ?_, ?_, rfl, rfl, rfl, rfl, ?_⟩
  · show upd s.lev (1 - i) (s.lev i) (1 - i) = s.lev i
    exact upd_same _ _ _
  · show upd s.lev (1 - i) (s.lev i) i = s.lev i
    exact upd_other _ _ (by omega)
  · show upd s.alone i false i = false
    exact upd_same _ _ _
/-- Where the witness answers, a request is decided. -/
theorem able_asked {s : PC} {i : Nat} (hl : s.hasLease i = true) (ha : s.answered i 2 = true) (k : Nat) (cost : Int) : (s.asked i k cost).1 = 5 ∨ (s.asked i k cost).1 = 6 := by
  have hs : ∀ amt, (s.secured i k amt).1 = true := by
    intro amt
    unfold PC.secured
    split
    · rfl
    · split
      · rfl
      · split
        · show (s.charged (1 - i) k amt).answered i 2 = true
          exact ha
        · exact ha
  unfold PC.asked
  rw [if_pos hl]
  split
  · exact .inl rfl
  · split
    · exact .inr rfl
    · rw [if_pos (hs _)]
      exact .inl rfl
/-- The other, behind the holder's crash: refused while the lease lasts. -/
theorem other_refused {s : PC} {j : Nat} (hj : j < 2) (hlink : s.link (j + 2 - 1) = 0) (hh : s.holder ≠ (j : Int)) (hn : s.holder ≠ -1) (hw : s.now < s.wtil) : s.campaigned (j : Int) = (2, s) := by
  have a1 : s.arrives j 2 = true := by
    unfold PC.arrives
    rw [hlink]
    simp
  have a2 : s.answered j 2 = true := by
    unfold PC.answered
    rw [a1, hlink]
    rfl
  have hm : s.mayLead (j : Int) = false := by
    unfold PC.mayLead
    simp
    exact ⟨⟨hh, hn⟩, fun h => by omega⟩
  unfold PC.campaigned
  rw [Int.toNat_natCast, if_pos a1, hm, if_neg (by simp), if_pos a2]
/-- .. granted once it has run out, if nobody acts alone. -/
theorem other_granted {s : PC} (ok : s.Ok) {j : Nat} (hj : j < 2) (hup : s.up j = true) (hlink : s.link (j + 2 - 1) = 0) (hw : s.wtil ≤ s.now) (hso : s.solo = false) : (s.campaigned (j : Int)).1 = 1 ∧ (s.campaigned (j : Int)).2.hasLease j = true ∧ (s.campaigned (j : Int)).2.answered j 2 = true ∧ (s.campaigned (j : Int)).2.up = s.up ∧ (s.campaigned (j : Int)).2.count = s.count := by
  have a1 : s.arrives j 2 = true := by
    unfold PC.arrives
    rw [hlink]
    simp
  have a2 : s.answered j 2 = true := by
    unfold PC.answered
    rw [a1, hlink]
    rfl
  have hm : s.mayLead (j : Int) = true := by
    unfold PC.mayLead
    rw [hso]
    simp [hw]
  have e : s.campaigned (j : Int) = (1, (s.granted (j : Int)).took j) := by
    unfold PC.campaigned
    rw [Int.toNat_natCast, if_pos a1, if_pos hm, if_pos a2]
  have kp : (s.granted (j : Int)).up = s.up ∧ (s.granted (j : Int)).link = s.link ∧ (s.granted (j : Int)).now = s.now ∧ (s.granted (j : Int)).wtil = s.now + s.lease ∧ (s.granted (j : Int)).count = s.count := by
    unfold PC.granted
    split <;> exact ⟨rfl, rfl, rfl, rfl, rfl⟩
  have l0 := ok.lease0
  rw [e]
  refine ⟨rfl, ?_, ?_, kp.1, kp.2.2.2.2⟩
  · unfold PC.hasLease
    show ((s.granted (j : Int)).up j && decide ((s.granted (j : Int)).now < upd (s.granted (j : Int)).til j (s.granted (j : Int)).wtil j)) = true
    rw [upd_same, kp.1, hup, kp.2.2.1, kp.2.2.2.1]
    simp
    omega
  · unfold PC.answered PC.arrives
    show ((!((s.granted (j : Int)).link (j + 2 - 1) == 2) && (2 == 2 || (s.granted (j : Int)).up 2)) && (s.granted (j : Int)).link (j + 2 - 1) == 0) = true
    rw [kp.2.1, hlink]
    rfl

/-- The wait, put to use: denied a tick early, admitted in time, denied for ever. -/
theorem wait_grown {s : PC} {i k : Nat} (ok : s.Ok) (hk : (k : Int) < s.count) (hl : s.lev i k ≤ s.burst k - s.window) (cost : Int) : WaitIs (fun t => s.grown k (s.lev i k) t) (cost - s.win i k) (waitOf (s.lev i k) (cost - s.win i k) (s.rate k) (s.burst k - s.window)) :=
  waitOf_is hl (ok.rate0 k)
theorem grown_add {s : PC} (ok : s.Ok) (k : Nat) (l a b : Int) (b0 : 0 ≤ b) : s.grown k (s.grown k l a) b = s.grown k l (a + b) := by
  unfold PC.grown
  have hb := Int.mul_nonneg (ok.rate0 k) b0
  rw [Int.mul_add]
  generalize s.rate k * a = x
  generalize s.rate k * b = y at *
  generalize s.burst k - s.window = r
  by_cases h1 : r < l + x
  · rw [if_pos h1]
    by_cases h2 : r < r + y
    · rw [if_pos h2, if_pos (by omega)]
    · rw [if_neg h2, if_pos (by omega)]; omega
  · rw [if_neg h1]
    by_cases h2 : r < l + x + y
    · rw [if_pos h2, if_pos (by omega)]
    · rw [if_neg h2, if_neg (by omega)]; omega
theorem waitOf_bd {l need rate room : Int} (l0 : 0 ≤ l) (h1 : room ≤ 1000000) (r0 : 0 ≤ rate) : -1 ≤ waitOf l need rate room ∧ waitOf l need rate room ≤ 1000000 := by
  unfold waitOf
  split
  · omega
  · split
    · omega
    · rename_i h2 h3
      have rp : 0 < rate := by omega
      constructor
      · have := Int.ediv_nonneg (show 0 ≤ need - l + rate - 1 by omega) r0
        omega
      · refine Int.le_of_lt_add_one ?_
        refine Int.ediv_lt_of_lt_mul rp ?_
        have : 1000001 * 1 ≤ 1000001 * rate := Int.mul_le_mul_of_nonneg_left (by omega) (by omega)
        have h4 : (1000000 + 1) * rate = 1000000 * rate + rate := by rw [Int.add_mul, Int.one_mul]
        have h5 : 1000000 * 1 ≤ 1000000 * rate := Int.mul_le_mul_of_nonneg_left (by omega) (by omega)
        rw [h4]
        omega

end Go.Proofs.YtpfahgogjeignabDoor

namespace Go.Proofs.YtpfahgogjeignabDoor
open Go.RowKit

/-- No level is above its room; the holder is a node or none. -/
structure Sane (s : PC) : Prop where
  ok : s.Ok
  gate : Gate' s
  who : Who s
  room : ∀ i k : Nat, i < 2 → (k : Int) < s.count → s.lev i k ≤ s.burst k - s.window

theorem room_of {s s' : PC} (h : ∀ i k : Nat, i < 2 → (k : Int) < s.count → s.lev i k ≤ s.burst k - s.window) (h1 : s'.count = s.count) (h2 : s'.burst = s.burst) (h3 : s'.window = s.window) (h4 : ∀ i k : Nat, i < 2 → (k : Int) < s.count → ∃ j, j < 2 ∧ s'.lev i k ≤ s.lev j k) : ∀ i k : Nat, i < 2 → (k : Int) < s'.count → s'.lev i k ≤ s'.burst k - s'.window := by
  intro i k hi hk
  rw [h1] at hk
  rw [h2, h3]
  obtain ⟨j, hj, hle⟩ := h4 i k hi hk
  exact Int.le_trans hle (h j k hj hk)
theorem charged_le (s : PC) (ok : s.Ok) (i k : Nat) (amt : Int) (a0 : 0 ≤ amt) (j q : Nat) : (s.charged i k amt).lev j q ≤ s.lev j q := by
  show upd s.lev i (upd (s.lev i) k (chargedLev (s.lev i k) amt)) j q ≤ s.lev j q
  by_cases e : j = i ∧ q = k
  · obtain ⟨rfl, rfl⟩ := e
    have : upd s.lev j (upd (s.lev j) q (chargedLev (s.lev j q) amt)) j q = chargedLev (s.lev j q) amt := by
      unfold upd
      simp
    rw [this]
    exact (chargedLev_bd (ok.lev0 j q) a0).2
  · unfold upd
    split
    · rename_i e1
      dsimp only
      split
      · rename_i e2; exact absurd ⟨e1, e2⟩ e
      · rw [e1]; exact Int.le_refl _
    · exact Int.le_refl _
theorem secured_le (s : PC) (ok : s.Ok) (i k : Nat) (amt : Int) (a0 : 0 ≤ amt) (j q : Nat) : (s.secured i k amt).2.lev j q ≤ s.lev j q := by
  unfold PC.secured
  split
  · exact Int.le_refl _
  · split
    · exact charged_le s ok _ _ _ a0 j q
    · split
      · rw [(second_keeps (s.charged (1 - i) k amt) i).1]
        exact charged_le s ok _ _ _ a0 j q
      · rw [(second_keeps s i).1]
        exact Int.le_refl _
theorem second_fix (s : PC) (i : Nat) : (s.second i).2.burst = s.burst ∧ (s.second i).2.holder = s.holder := by
  unfold PC.second
  dsimp only
  split
  · exact ⟨rfl, rfl⟩
  · split <;> exact ⟨rfl, rfl⟩
theorem secured_fix (s : PC) (i k : Nat) (amt : Int) : (s.secured i k amt).2.burst = s.burst ∧ (s.secured i k amt).2.holder = s.holder := by
  unfold PC.secured
  split
  · exact ⟨rfl, rfl⟩
  · split
    · exact ⟨rfl, rfl⟩
    · split
      · exact second_fix (s.charged (1 - i) k amt) i
      · exact second_fix s i
theorem asked_fix (s : PC) (ok : s.Ok) (i k : Nat) (cost : Int) (c1 : cost ≤ 2000000) : (s.asked i k cost).2.burst = s.burst ∧ (s.asked i k cost).2.holder = s.holder ∧ (s.asked i k cost).2.count = s.count ∧ (s.asked i k cost).2.window = s.window ∧ ∀ j q, (s.asked i k cost).2.lev j q ≤ s.lev j q := by
  unfold PC.asked
  split
  · split
    · exact ⟨rfl, rfl, rfl, rfl, fun _ _ => Int.le_refl _⟩
    · rename_i hc
      split
      · exact ⟨rfl, rfl, rfl, rfl, fun _ _ => Int.le_refl _⟩
      · have hb := reserve_bd (lev := s.lev i k) (ok.wn0 i k) hc c1 ok.win0 ok.win1
        generalize reserveOf (s.lev i k) (s.win i k) s.window cost = amt at *
        have f := secured_fix s i k amt
        have kp := secured_keeps s i k amt
        have o2 := secured_ok ok i k amt hb.1
        split
        · exact ⟨f.1, f.2, kp.2.2, kp.2.1, fun j q => Int.le_trans (charged_le _ o2 i k amt hb.1 j q) (secured_le s ok i k amt hb.1 j q)⟩
        · exact ⟨f.1, f.2, kp.2.2, kp.2.1, fun j q => secured_le s ok i k amt hb.1 j q⟩
  · exact ⟨rfl, rfl, rfl, rfl, fun _ _ => Int.le_refl _⟩
theorem campaigned_fix (s : PC) (i : Nat) (hi : i < 2) : (s.campaigned (i : Int)).2.burst = s.burst ∧ (s.campaigned (i : Int)).2.count = s.count ∧ (s.campaigned (i : Int)).2.window = s.window ∧ (s.campaigned (i : Int)).2.lev = s.lev ∧ (Who s → Who (s.campaigned (i : Int)).2) := by
  have hg : (s.granted (i : Int)).burst = s.burst ∧ (s.granted (i : Int)).count = s.count ∧ (s.granted (i : Int)).window = s.window ∧ (s.granted (i : Int)).lev = s.lev ∧ (s.granted (i : Int)).holder = (i : Int) := by
    unfold PC.granted
    split
    · rename_i h; exact ⟨rfl, rfl, rfl, rfl, h⟩
    · exact ⟨rfl, rfl, rfl, rfl, rfl⟩
  have hwho : ∀ t : PC, t.holder = (i : Int) → Who t := by
    intro t ht
    unfold Who
    rw [ht]
    omega
  unfold PC.campaigned
  split
  · split
    · split
      · exact ⟨hg.1, hg.2.1, hg.2.2.1, hg.2.2.2.1, fun _ => hwho _ hg.2.2.2.2⟩
      · exact ⟨hg.1, hg.2.1, hg.2.2.1, hg.2.2.2.1, fun _ => hwho _ hg.2.2.2.2⟩
    · exact ⟨rfl, rfl, rfl, rfl, fun h => h⟩
  · exact ⟨rfl, rfl, rfl, rfl, fun h => h⟩
theorem joined_fix (s : PC) (i : Nat) (hi : i < 2) : (s.joined i).2.burst = s.burst ∧ (s.joined i).2.count = s.count ∧ (s.joined i).2.window = s.window ∧ (s.joined i).2.holder = s.holder ∧ ∀ j q, j < 2 → ∃ j', j' < 2 ∧ (s.joined i).2.lev j q ≤ s.lev j' q := by
  have hc : ∀ j q, j < 2 → ∃ j', j' < 2 ∧ ((s.unaloned i).copied i).lev j q ≤ s.lev j' q := by
    intro j q hj
    by_cases e : j = 1 - i
    · refine ⟨i, hi, ?_⟩
      show upd s.lev (1 - i) (s.lev i) j q ≤ _
      rw [e, upd_same]
      exact Int.le_refl _
    · refine ⟨j, hj, ?_⟩
      show upd s.lev (1 - i) (s.lev i) j q ≤ _
      rw [upd_other _ _ e]
      exact Int.le_refl _
  have hid : ∀ j q, j < 2 → ∃ j', j' < 2 ∧ s.lev j q ≤ s.lev j' q := fun j q hj => ⟨j, hj, Int.le_refl _⟩
  unfold PC.joined PC.joinEnd
  split
  · split
    · dsimp only
      split
      · exact ⟨rfl, rfl, rfl, rfl, hc⟩
      · exact ⟨rfl, rfl, rfl, rfl, hc⟩
    · dsimp only
      split
      · exact ⟨rfl, rfl, rfl, rfl, hc⟩
      · exact ⟨rfl, rfl, rfl, rfl, hid⟩
  · exact ⟨rfl, rfl, rfl, rfl, hid⟩

theorem sane_fresh {le wi : Int} {n : Nat} {R B : Nat → Int} (g : Good le wi n R B) : Sane (PC.fresh le wi n R B n 2 (-1)) := by
  refine ⟨fresh_ok g.l0 g.l1 g.ten g.win 2 (-1), ⟨gate_fresh le wi n R B g.l0, Int.le_refl _⟩, .inl rfl, fun i k hi hk => ?_⟩
  have hk' : k < n := by
    have : (k : Int) < (n : Int) := hk
    omega
  show (if i < 2 then (if k < n then B k - wi else 0) else 0 : Int) ≤ (if k < n then B k else 0) - wi
  rw [if_pos hi, if_pos hk', if_pos hk']
  exact Int.le_refl _
theorem same_le {s : PC} (i k : Nat) (hi : i < 2) : ∃ j, j < 2 ∧ s.lev i k ≤ s.lev j k := ⟨i, hi, Int.le_refl _⟩
theorem sane_passed {s : PC} (h : Sane s) (t : Int) (t0 : 0 ≤ t) (t1 : t ≤ 1000000000000 - s.now) : Sane (s.passed t) := by
  refine ⟨passed_ok h.ok t t0 t1, ⟨gate_passed h.gate.g t t0, h.gate.w0⟩, h.who, fun i k hi hk => ?_⟩
  have hk' : (k : Int) < s.count := hk
  rw [passed_lev t i k hi hk']
  show s.grown k (s.lev i k) t ≤ s.burst k - s.window
  unfold PC.grown
  split <;> omega
/-- Every step keeps it. -/
theorem sane_call {s : PC} (h : Sane s) (k x y z : Int) : Sane (s.call k x y z).2 := by
  have gk := gate_call h.ok h.gate k x y z
  by_cases hk : k < 1 ∨ 12 < k
  · have e : s.call k x y z = (⟨0, 0, 0, 0, 0⟩, s) := by
      unfold PC.call
      rw [if_neg (by omega), if_neg (by omega), if_neg (by omega), if_neg (by omega), if_neg (by omega), if_neg (by omega), if_neg (by omega), if_neg (by omega), if_neg (by omega), if_neg (by omega), if_neg (by omega), if_neg (by omega)]
    rw [e]
    exact h
  · rcases (by omega : k = 1 ∨ k = 2 ∨ k = 3 ∨ k = 4 ∨ k = 5 ∨ k = 6 ∨ k = 7 ∨ k = 8 ∨ k = 9 ∨ k = 10 ∨ k = 11 ∨ k = 12) with rfl | rfl | rfl | rfl | rfl | rfl | rfl | rfl | rfl | rfl | rfl | rfl
    · show Sane (s.passR x).2
      unfold PC.passR
      split
      · exact h
      · exact sane_passed h x (by omega) (by omega)
    · refine ⟨gk.2, gk.1, ?_, ?_⟩
      · show Who (s.linkR x y z).2
        unfold PC.linkR
        split <;> exact h.who
      · show ∀ i k : Nat, i < 2 → (k : Int) < (s.linkR x y z).2.count → (s.linkR x y z).2.lev i k ≤ (s.linkR x y z).2.burst k - (s.linkR x y z).2.window
        unfold PC.linkR
        split <;> exact h.room
    · refine ⟨gk.2, gk.1, ?_, ?_⟩
      · show Who (s.crashR x).2
        unfold PC.crashR
        split
        · split <;> exact h.who
        · exact h.who
      · show ∀ i k : Nat, i < 2 → (k : Int) < (s.crashR x).2.count → (s.crashR x).2.lev i k ≤ (s.crashR x).2.burst k - (s.crashR x).2.window
        unfold PC.crashR
        split
        · split <;> exact h.room
        · exact h.room
    · refine ⟨gk.2, gk.1, ?_, ?_⟩
      · show Who (s.startR x).2
        unfold PC.startR
        split
        · split <;> exact h.who
        · exact h.who
      · show ∀ i k : Nat, i < 2 → (k : Int) < (s.startR x).2.count → (s.startR x).2.lev i k ≤ (s.startR x).2.burst k - (s.startR x).2.window
        unfold PC.startR
        split
        · split <;> exact h.room
        · exact h.room
    · have key : Who (s.campR x).2 ∧ ∀ i k : Nat, i < 2 → (k : Int) < (s.campR x).2.count → (s.campR x).2.lev i k ≤ (s.campR x).2.burst k - (s.campR x).2.window := by
        unfold PC.campR
        split
        · rename_i hn
          obtain ⟨j, hj, rfl⟩ := nat_of_node hn
          split
          · have f := campaigned_fix s j hj
            exact ⟨f.2.2.2.2 h.who, room_of h.room f.2.1 f.1 f.2.2.1 (fun i k hi _ => by rw [f.2.2.2.1]; exact same_le i k hi)⟩
          · exact ⟨h.who, h.room⟩
        · exact ⟨h.who, h.room⟩
      exact ⟨gk.2, gk.1, key.1, key.2⟩
    · have key : Who (s.askR x y z).2 ∧ ∀ i k : Nat, i < 2 → (k : Int) < (s.askR x y z).2.count → (s.askR x y z).2.lev i k ≤ (s.askR x y z).2.burst k - (s.askR x y z).2.window := by
        unfold PC.askR
        split
        · rename_i hw
          obtain ⟨_, _, _, _, c1⟩ := pwrong_bd hw
          split
          · have f := asked_fix s h.ok x.toNat y.toNat z c1
            refine ⟨?_, room_of h.room f.2.2.1 f.1 f.2.2.2.1 (fun i k hi _ => ⟨i, hi, f.2.2.2.2 i k⟩)⟩
            show (s.asked x.toNat y.toNat z).2.holder = -1 ∨ _ ∨ _
            rw [f.2.1]
            exact h.who
          · exact ⟨h.who, h.room⟩
        · exact ⟨h.who, h.room⟩
      exact ⟨gk.2, gk.1, key.1, key.2⟩
    · have key : Who (s.joinR x).2 ∧ ∀ i k : Nat, i < 2 → (k : Int) < (s.joinR x).2.count → (s.joinR x).2.lev i k ≤ (s.joinR x).2.burst k - (s.joinR x).2.window := by
        unfold PC.joinR
        split
        · rename_i hn
          obtain ⟨j, hj, rfl⟩ := nat_of_node hn
          rw [Int.toNat_natCast]
          split
          · have f := joined_fix s j hj
            refine ⟨?_, room_of h.room f.2.1 f.1 f.2.2.1 (fun i k hi _ => f.2.2.2.2 i k hi)⟩
            show (s.joined j).2.holder = -1 ∨ _ ∨ _
            rw [f.2.2.2.1]
            exact h.who
          · exact ⟨h.who, h.room⟩
        · exact ⟨h.who, h.room⟩
      exact ⟨gk.2, gk.1, key.1, key.2⟩
    · exact h
    · exact h
    · exact h
    · exact h
    · exact h

end Go.Proofs.YtpfahgogjeignabDoor
