/-
  The program's Ask: its errors, who has a lease, how a level is charged.
-/
import Derived.Test.YtpfahgogjeignabDoorProC
import Derived.Test.YtpfahgogjeignabDoorProE
set_option linter.unusedVariables false
set_option linter.unusedSimpArgs false
namespace Go.Proofs.YtpfahgogjeignabDoor
open Go.RowKit
attribute [local go_sem] pcg0 pcg1 pcg2 pcg3 pcg4 pcg5 pcg6 pcg7 pcg8 pcg9 pcg10 pcg11 pcg12 pcg13 pcg14 pcg15 pcg16 pcg17 pcg18 pcg19 pcg20 pcg21 pcg22 pcg23 pcg24 pcg25 pcg26 pcg27 pcg28 pcg29 pcg30 pcg31 pcg32 pcg33 pcg34 pcg35 pcg36 pcg37 pcg38 pcg39 pcg40 pcg41 pcg42
attribute [local go_sem] pcgRate pcgBurst pcgLink pcgUp pcgEpoch pcgTil pcgAlone pcgLev pcgWin

def PC.hasLease (s : PC) (i : Nat) : Bool := s.up i && decide (s.now < s.til i)

set_option maxHeartbeats 400000 in
theorem hasLease_any (b : Nat) (s : PC) (i : Int) (h0 : 0 ≤ i) (h2 : i < 2) (w : World) (h : PAt w b s) :
    Calls Tryd.prog 55 #[.pointer (some ⟨b, 0, none⟩), .int .i64 i] w fun e w' => e = .returned (.bool (s.hasLease i.toNat)) ∧ ∃ n, w' = w.drewN n := by
  have hC := h.cell
  unfold PC.hasLease
  cases hu : s.up i.toNat
  all_goals
    go_enter Tryd.func55, Tryd.ntmps55
    go_wp2
    go_quiet (fail)
    go_wp2
    go_ret
    exact ⟨by simp [hu], _, rfl⟩

set_option maxHeartbeats 400000 in
theorem other_any (i : Int) (h0 : 0 ≤ i) (h2 : i < 2) (w : World) :
    Calls Tryd.prog 68 #[.int .i64 i] w fun e w' => e = .returned (.int .i64 (1 - i)) ∧ w' = w := by
  go_enter Tryd.func68, Tryd.ntmps68
  go_wp2
  go_ret
  exact ⟨by go_num, rfl⟩

/-- What is wrong with a request. -/
def PC.wrong (s : PC) (i k cost : Int) : Int := if isNodeB i then (if hasTenantB s k then (if 1 ≤ cost ∧ cost ≤ 2000000 then 0 else 9) else 2) else 4

set_option maxHeartbeats 1000000 in
theorem requestError_any (b : Nat) (s : PC) (i k cost : Int) (w : World) (h : PAt w b s) :
    Calls Tryd.prog 54 #[.pointer (some ⟨b, 0, none⟩), .int .i64 i, .int .i64 k, .int .i64 cost] w fun e w' => e = .returned (.int .i64 (s.wrong i k cost)) ∧ w' = w := by
  have hC := h.cell
  cases hi : isNodeB i
  · have e : s.wrong i k cost = 4 := by unfold PC.wrong; rw [if_neg (by simp [hi])]
    rw [e]
    clear e
    go_enter Tryd.func54, Tryd.ntmps54
    go_wp2_with (go_at_call 49; refine (isNode_any _ _).mono ?_; rintro e w' ⟨rfl, rfl⟩)
    go_ret
    exact ⟨rfl, rfl⟩
  · cases hk : hasTenantB s k
    · have e : s.wrong i k cost = 2 := by unfold PC.wrong; rw [if_pos hi, if_neg (by simp [hk])]
      rw [e]
      clear e
      go_enter Tryd.func54, Tryd.ntmps54
      go_wp2_with (first | (go_at_call 49; refine (isNode_any _ _).mono ?_; rintro e w' ⟨rfl, rfl⟩) | (go_at_call 62; refine (hasTenant_any b s k _ h).mono ?_; rintro e w' ⟨rfl, rfl⟩))
      go_ret
      exact ⟨rfl, rfl⟩
    · by_cases c0 : cost < 1
      · have e : s.wrong i k cost = 9 := by unfold PC.wrong; rw [if_pos hi, if_pos hk, if_neg (by omega)]
        rw [e]
        clear e
        go_enter Tryd.func54, Tryd.ntmps54
        go_wp2_with (first | (go_at_call 49; refine (isNode_any _ _).mono ?_; rintro e w' ⟨rfl, rfl⟩) | (go_at_call 62; refine (hasTenant_any b s k _ h).mono ?_; rintro e w' ⟨rfl, rfl⟩))
        go_ret
        exact ⟨rfl, rfl⟩
      · by_cases c1 : 2000000 < cost
        · have e : s.wrong i k cost = 9 := by unfold PC.wrong; rw [if_pos hi, if_pos hk, if_neg (by omega)]
          rw [e]
          clear e
          go_enter Tryd.func54, Tryd.ntmps54
          go_wp2_with (first | (go_at_call 49; refine (isNode_any _ _).mono ?_; rintro e w' ⟨rfl, rfl⟩) | (go_at_call 62; refine (hasTenant_any b s k _ h).mono ?_; rintro e w' ⟨rfl, rfl⟩))
          go_ret
          exact ⟨rfl, rfl⟩
        · have e : s.wrong i k cost = 0 := by unfold PC.wrong; rw [if_pos hi, if_pos hk, if_pos (by omega)]
          rw [e]
          clear e
          go_enter Tryd.func54, Tryd.ntmps54
          go_wp2_with (first | (go_at_call 49; refine (isNode_any _ _).mono ?_; rintro e w' ⟨rfl, rfl⟩) | (go_at_call 62; refine (hasTenant_any b s k _ h).mono ?_; rintro e w' ⟨rfl, rfl⟩))
          go_ret
          exact ⟨rfl, rfl⟩

/-- A level is charged. -/
def chargedLev (l amt : Int) : Int := if l < amt then 0 else l - amt
def PC.charged (s : PC) (i k : Nat) (amt : Int) : PC := s.setLevs (upd s.lev i (upd (s.lev i) k (chargedLev (s.lev i k) amt)))
/-- A window is laid down. -/
def PC.setWin (s : PC) (i k : Nat) (v : Int) : PC := { s with win := upd s.win i (upd (s.win i) k v) }
theorem win_set (s : PC) (i k v : Int) (h0 : 0 ≤ i) (h : i < 2) (k0 : 0 ≤ k) (k4 : k < 4) :
    (pcArr s).setIfInBounds (15 + i.toNat * 12 + 8 + k.toNat) (.int .i64 v) = pcArr (s.setWin i.toNat k.toNat v) := by
  rcases lt2 h0 h with rfl | rfl <;> rcases lt4 k0 k4 with rfl | rfl | rfl | rfl <;> rfl

set_option maxHeartbeats 1000000 in
theorem charge_any (b : Nat) (s : PC) (i k amt : Int) (h0 : 0 ≤ i) (h2 : i < 2) (k0 : 0 ≤ k) (kc : k < s.count) (a0 : 0 ≤ amt) (a1 : amt ≤ 3000000) (ok : s.Ok) (w : World) (h : PAt w b s) :
    Calls Tryd.prog 58 #[.pointer (some ⟨b, 0, none⟩), .int .i64 i, .int .i64 k, .int .i64 amt] w fun e w' => e = .returned (.tuple #[]) ∧ PAt w' b (s.charged i.toNat k.toNat amt) ∧ Wrote b w w' := by
  have hC := h.cell
  have hF := h.free
  have c1 := ok.count1
  have k4 : k < 4 := by omega
  have l0 := ok.lev0 i.toNat k.toNat
  have l1 := ok.lev1 i.toNat k.toNat
  have hS := lev_set s i k (chargedLev (s.lev i.toNat k.toNat) amt) h0 h2 k0 k4
  have HS : Hid ((pcArr s).setIfInBounds (15 + i.toNat * 12 + 4 + k.toNat) (.int .i64 (chargedLev (s.lev i.toNat k.toNat) amt)) = pcArr (s.charged i.toNat k.toNat amt)) := hS
  clear hS
  by_cases hlt : s.lev i.toNat k.toNat < amt
  · have hneg : s.lev i.toNat k.toNat - amt < 0 := by omega
    have HE : Hid (chargedLev (s.lev i.toNat k.toNat) amt = 0) := if_pos hlt
    go_enter Tryd.func58, Tryd.ntmps58
    go_wp2_with fail
    go_end0
    refine ⟨rfl, PAt.of ?_ HS.out, ?_⟩
    · rw [HE.out]
      repeat (with_reducible first | refine BAt.drew ?_ | refine BAt.drewN ?_ _ | refine BAt.set ?_ _ _ | exact h.bat)
    · repeat (with_reducible first | refine Kept.drew ?_ | refine Kept.drewN ?_ _ | refine Wrote.set ?_ _ _ | exact Kept.refl _ _)
  · have hneg : ¬ s.lev i.toNat k.toNat - amt < 0 := by omega
    have HE : Hid (chargedLev (s.lev i.toNat k.toNat) amt = s.lev i.toNat k.toNat - amt) := if_neg hlt
    go_enter Tryd.func58, Tryd.ntmps58
    go_wp2_with fail
    go_end0
    refine ⟨rfl, PAt.of ?_ HS.out, ?_⟩
    · rw [HE.out]
      repeat (with_reducible first | refine BAt.drew ?_ | refine BAt.drewN ?_ _ | refine BAt.set ?_ _ _ | exact h.bat)
    · repeat (with_reducible first | refine Kept.drew ?_ | refine Kept.drewN ?_ _ | refine Wrote.set ?_ _ _ | exact Kept.refl _ _)

end Go.Proofs.YtpfahgogjeignabDoor

namespace Go.Proofs.YtpfahgogjeignabDoor
open Go.RowKit

def PC.soloed (s : PC) : PC := { s with solo := true }
def PC.aloned (s : PC) (i : Nat) : PC := { s with alone := upd s.alone i true }
/-- The second message of securing. -/
def PC.second (s : PC) (i : Nat) : Bool × PC :=
  (s.answered i 2, if s.answered i 2 then s.soloed.aloned i else if s.arrives i 2 then s.soloed else s)
/-- Securing so much: does it come about, and what is left. -/
def PC.secured (s : PC) (i k : Nat) (amt : Int) : Bool × PC :=
  if s.alone i then (true, s)
  else if s.answered i (1 - i) then (true, s.charged (1 - i) k amt)
  else if s.arrives i (1 - i) then (s.charged (1 - i) k amt).second i
  else s.second i
/-- How much is to be secured. -/
def resN (lev n window : Int) : Int := if lev < n + window then n else n + window
def reserveOf (lev win window cost : Int) : Int := resN lev (cost - win) window
/-- What Ask answers where nothing is wrong and the node is up, and what it leaves. -/
def PC.asked (s : PC) (i k : Nat) (cost : Int) : Int × PC :=
  if s.hasLease i then
    if cost ≤ s.win i k then (5, s.setWin i k (s.win i k - cost))
    else if s.lev i k < cost - s.win i k then (6, s)
    else if (s.secured i k (reserveOf (s.lev i k) (s.win i k) s.window cost)).1 then
      (5, ((s.secured i k (reserveOf (s.lev i k) (s.win i k) s.window cost)).2.charged i k (reserveOf (s.lev i k) (s.win i k) s.window cost)).setWin i k (reserveOf (s.lev i k) (s.win i k) s.window cost - (cost - s.win i k)))
    else (7, (s.secured i k (reserveOf (s.lev i k) (s.win i k) s.window cost)).2)
  else (4, s)

theorem chargedLev_bd {l amt : Int} (l0 : 0 ≤ l) (a0 : 0 ≤ amt) : 0 ≤ chargedLev l amt ∧ chargedLev l amt ≤ l := by
  unfold chargedLev
  split <;> omega
theorem charged_ok {s : PC} (ok : s.Ok) (i k : Nat) (amt : Int) (a0 : 0 ≤ amt) : (s.charged i k amt).Ok := by
  have hb := chargedLev_bd (ok.lev0 i k) a0
  have h1 := ok.lev1 i k
  refine ⟨ok.lease0, ok.lease1, ok.win0, ok.win1, ok.count0, ok.count1, ok.rate0, ok.rate1, ok.burst0, ok.burst1, ok.fits, ok.now0, ok.now1, ?_, ?_, ok.wn0, ok.wn1⟩
  · intro j q
    show 0 ≤ upd s.lev i (upd (s.lev i) k (chargedLev (s.lev i k) amt)) j q
    have := ok.lev0
    unfold upd
    split
    · dsimp only
      split
      · omega
      · exact this _ _
    · exact this _ _
  · intro j q
    show upd s.lev i (upd (s.lev i) k (chargedLev (s.lev i k) amt)) j q ≤ _
    have := ok.lev1
    unfold upd
    split
    · dsimp only
      split
      · omega
      · exact this _ _
    · exact this _ _
theorem setWin_ok {s : PC} (ok : s.Ok) (i k : Nat) (v : Int) (v0 : 0 ≤ v) (v1 : v ≤ s.window) : (s.setWin i k v).Ok := by
  refine ⟨ok.lease0, ok.lease1, ok.win0, ok.win1, ok.count0, ok.count1, ok.rate0, ok.rate1, ok.burst0, ok.burst1, ok.fits, ok.now0, ok.now1, ok.lev0, ok.lev1, ?_, ?_⟩
  · intro j q
    show 0 ≤ upd s.win i (upd (s.win i) k v) j q
    have := ok.wn0
    unfold upd
    split
    · dsimp only
      split
      · exact v0
      · exact this _ _
    · exact this _ _
  · intro j q
    show upd s.win i (upd (s.win i) k v) j q ≤ s.window
    have := ok.wn1
    unfold upd
    split
    · dsimp only
      split
      · exact v1
      · exact this _ _
    · exact this _ _
theorem soloed_ok {s : PC} (ok : s.Ok) : s.soloed.Ok :=
  ⟨ok.lease0, ok.lease1, ok.win0, ok.win1, ok.count0, ok.count1, ok.rate0, ok.rate1, ok.burst0, ok.burst1, ok.fits, ok.now0, ok.now1, ok.lev0, ok.lev1, ok.wn0, ok.wn1⟩
theorem aloned_ok {s : PC} (ok : s.Ok) (i : Nat) : (s.aloned i).Ok :=
  ⟨ok.lease0, ok.lease1, ok.win0, ok.win1, ok.count0, ok.count1, ok.rate0, ok.rate1, ok.burst0, ok.burst1, ok.fits, ok.now0, ok.now1, ok.lev0, ok.lev1, ok.wn0, ok.wn1⟩
theorem second_ok {s : PC} (ok : s.Ok) (i : Nat) : (s.second i).2.Ok := by
  unfold PC.second
  dsimp only
  split
  · exact aloned_ok (soloed_ok ok) i
  · split
    · exact soloed_ok ok
    · exact ok
theorem secured_ok {s : PC} (ok : s.Ok) (i k : Nat) (amt : Int) (a0 : 0 ≤ amt) : (s.secured i k amt).2.Ok := by
  unfold PC.secured
  split
  · exact ok
  · split
    · exact charged_ok ok _ _ _ a0
    · split
      · exact second_ok (charged_ok ok _ _ _ a0) i
      · exact second_ok ok i
theorem second_keeps (s : PC) (i : Nat) : (s.second i).2.lev = s.lev ∧ (s.second i).2.win = s.win ∧ (s.second i).2.window = s.window ∧ (s.second i).2.count = s.count := by
  unfold PC.second
  dsimp only
  split
  · exact ⟨rfl, rfl, rfl, rfl⟩
  · split <;> exact ⟨rfl, rfl, rfl, rfl⟩
theorem secured_keeps (s : PC) (i k : Nat) (amt : Int) : (s.secured i k amt).2.win = s.win ∧ (s.secured i k amt).2.window = s.window ∧ (s.secured i k amt).2.count = s.count := by
  unfold PC.secured
  split
  · exact ⟨rfl, rfl, rfl⟩
  · split
    · exact ⟨rfl, rfl, rfl⟩
    · split
      · have := second_keeps (s.charged (1 - i) k amt) i
        exact ⟨this.2.1, this.2.2.1, this.2.2.2⟩
      · have := second_keeps s i
        exact ⟨this.2.1, this.2.2.1, this.2.2.2⟩
theorem reserve_bd {lev win window cost : Int} (w0 : 0 ≤ win) (h : ¬ cost ≤ win) (c1 : cost ≤ 2000000) (d0 : 0 ≤ window) (d1 : window ≤ 1000000) :
    0 ≤ reserveOf lev win window cost ∧ reserveOf lev win window cost ≤ 3000000 ∧ 0 ≤ reserveOf lev win window cost - (cost - win) ∧ reserveOf lev win window cost - (cost - win) ≤ window := by
  unfold reserveOf resN
  split <;> omega

end Go.Proofs.YtpfahgogjeignabDoor

namespace Go.Proofs.YtpfahgogjeignabDoor
open Go.RowKit
attribute [local go_sem] pcg0 pcg1 pcg2 pcg3 pcg4 pcg5 pcg6 pcg7 pcg8 pcg9 pcg10 pcg11 pcg12 pcg13 pcg14 pcg15 pcg16 pcg17 pcg18 pcg19 pcg20 pcg21 pcg22 pcg23 pcg24 pcg25 pcg26 pcg27 pcg28 pcg29 pcg30 pcg31 pcg32 pcg33 pcg34 pcg35 pcg36 pcg37 pcg38 pcg39 pcg40 pcg41 pcg42
attribute [local go_sem] pcgRate pcgBurst pcgLink pcgUp pcgEpoch pcgTil pcgAlone pcgLev pcgWin

set_option maxHeartbeats 1000000 in
theorem reserve_any (b : Nat) (s : PC) (i k n : Int) (h0 : 0 ≤ i) (h2 : i < 2) (k0 : 0 ≤ k) (kc : k < s.count) (n0 : 0 ≤ n) (n1 : n ≤ 2000000) (ok : s.Ok) (w : World) (h : PAt w b s) :
    Calls Tryd.prog 56 #[.pointer (some ⟨b, 0, none⟩), .int .i64 i, .int .i64 k, .int .i64 n] w fun e w' => e = .returned (.int .i64 (resN (s.lev i.toNat k.toNat) n s.window)) ∧ ∃ q, w' = w.drewN q := by
  have hC := h.cell
  have k4 : k < 4 := by have := ok.count1; omega
  have d0 := ok.win0
  have d1 := ok.win1
  by_cases hl : s.lev i.toNat k.toNat < n + s.window
  · have HE : Hid (resN (s.lev i.toNat k.toNat) n s.window = n) := if_pos hl
    go_enter Tryd.func56, Tryd.ntmps56
    go_wp2
    go_quiet (fail)
    go_wp2
    go_ret
    exact ⟨by rw [HE.out]; rfl, _, rfl⟩
  · have HE : Hid (resN (s.lev i.toNat k.toNat) n s.window = n + s.window) := if_neg hl
    go_enter Tryd.func56, Tryd.ntmps56
    go_wp2
    go_quiet (fail)
    go_wp2
    go_ret
    exact ⟨by rw [HE.out]; rfl, _, rfl⟩

theorem solo_set (s : PC) : (pcArr s).setIfInBounds 42 (.bool true) = pcArr s.soloed := rfl
theorem alone_set (s : PC) (i : Int) (h0 : 0 ≤ i) (h : i < 2) : (pcArr s).setIfInBounds (15 + i.toNat * 12 + 3) (.bool true) = pcArr (s.aloned i.toNat) := by
  rcases lt2 h0 h with rfl | rfl <;> rfl
theorem PAt.toSolo {w : World} {b : Nat} {s : PC} (h : PAt w b s) : PAt (w.setCell ⟨b, 42, none⟩ (.bool true)) b s.soloed := PAt.of (h.bat.set _ _) (solo_set s)
theorem PAt.toAlone {w : World} {b : Nat} {s : PC} (h : PAt w b s) (i : Int) (h0 : 0 ≤ i) (h2 : i < 2) : PAt (w.setCell ⟨b, 15 + i.toNat * 12 + 3, none⟩ (.bool true)) b (s.aloned i.toNat) := PAt.of (h.bat.set _ _) (alone_set s i h0 h2)

set_option maxHeartbeats 1000000 in
theorem goAlone_any (b : Nat) (s : PC) (i : Int) (h0 : 0 ≤ i) (h2 : i < 2) (w : World) (h : PAt w b s) :
    Calls Tryd.prog 69 #[.pointer (some ⟨b, 0, none⟩), .int .i64 i] w fun e w' => e = .returned (.bool (s.second i.toNat).1) ∧ PAt w' b (s.second i.toNat).2 ∧ Wrote b w w' := by
  have hC := h.cell
  have hF := h.free
  have hi := lt2 h0 h2
  unfold PC.second
  dsimp only
  cases ha : s.arrives i.toNat 2
  · have hw : s.answered i.toNat 2 = false := by simp [PC.answered, ha]
    simp only [hw, Bool.false_eq_true, if_false]
    go_enter Tryd.func69, Tryd.ntmps69
    go_wp2_with (go_at_call 50; refine (message_any b s i 2 hi (.inl rfl) _ h).mono ?_; rintro e w' ⟨rfl, n, rfl⟩; simp only [show (2 : Int).toNat = 2 from rfl])
    go_ret
    exact ⟨rfl, h, (Kept.refl _ _).drewN _⟩
  · cases hw : s.answered i.toNat 2
    · simp only [Bool.false_eq_true, if_false, if_true]
      go_enter Tryd.func69, Tryd.ntmps69
      go_wp2_with (go_at_call 50; refine (message_any b s i 2 hi (.inl rfl) _ h).mono ?_; rintro e w' ⟨rfl, n, rfl⟩; simp only [show (2 : Int).toNat = 2 from rfl])
      go_ret
      exact ⟨rfl, (PAt.drewN h n).toSolo, Wrote.set ((Kept.refl _ _).drewN _) _ _⟩
    · simp only [if_true]
      go_enter Tryd.func69, Tryd.ntmps69
      go_wp2_with (go_at_call 50; refine (message_any b s i 2 hi (.inl rfl) _ h).mono ?_; rintro e w' ⟨rfl, n, rfl⟩; simp only [show (2 : Int).toNat = 2 from rfl])
      go_ret
      exact ⟨rfl, (PAt.drewN h n).toSolo.toAlone i h0 h2, Wrote.set (Wrote.set ((Kept.refl _ _).drewN _) _ _) _ _⟩

set_option maxHeartbeats 1000000 in
theorem secure_any (b : Nat) (s : PC) (i k amt : Int) (h0 : 0 ≤ i) (h2 : i < 2) (k0 : 0 ≤ k) (kc : k < s.count) (a0 : 0 ≤ amt) (a1 : amt ≤ 3000000) (ok : s.Ok) (w : World) (h : PAt w b s) :
    Calls Tryd.prog 57 #[.pointer (some ⟨b, 0, none⟩), .int .i64 i, .int .i64 k, .int .i64 amt] w fun e w' => e = .returned (.bool (s.secured i.toNat k.toNat amt).1) ∧ PAt w' b (s.secured i.toNat k.toNat amt).2 ∧ Wrote b w w' := by
  have hC := h.cell
  have hi := lt2 h0 h2
  have ej : (1 - i).toNat = 1 - i.toNat := by omega
  have hm := message_any b s i (1 - i) hi (.inr rfl) w h
  have hc : ∀ n, Calls Tryd.prog 58 #[.pointer (some ⟨b, 0, none⟩), .int .i64 (1 - i), .int .i64 k, .int .i64 amt] (w.drewN n) fun e w' => e = .returned (.tuple #[]) ∧ PAt w' b (s.charged (1 - i).toNat k.toNat amt) ∧ Wrote b (w.drewN n) w' := fun n => charge_any b s (1 - i) k amt (by omega) (by omega) k0 kc a0 a1 ok _ (PAt.drewN h n)
  rw [ej] at hm hc
  have HM : Hid (Calls Tryd.prog 50 #[.pointer (some ⟨b, 0, none⟩), .int .i64 i, .int .i64 (1 - i)] w fun e' w' => e' = .returned (.tuple #[.bool (s.arrives i.toNat (1 - i.toNat)), .bool (s.answered i.toNat (1 - i.toNat))]) ∧ ∃ n, w' = w.drewN n) := hm
  have HC : Hid (∀ n, Calls Tryd.prog 58 #[.pointer (some ⟨b, 0, none⟩), .int .i64 (1 - i), .int .i64 k, .int .i64 amt] (w.drewN n) fun e w' => e = .returned (.tuple #[]) ∧ PAt w' b (s.charged (1 - i.toNat) k.toNat amt) ∧ Wrote b (w.drewN n) w') := hc
  clear hm hc ej
  cases hal : s.alone i.toNat
  · cases har : s.arrives i.toNat (1 - i.toNat)
    · have han : s.answered i.toNat (1 - i.toNat) = false := by simp [PC.answered, har]
      have FIN : Hid (s.secured i.toNat k.toNat amt = s.second i.toNat) := by simp [Hid, PC.secured, hal, har, han]
      go_enter Tryd.func57, Tryd.ntmps57
      go_wp2_with (first | (go_at_call 68; refine (other_any i h0 h2 _).mono ?_; rintro e w' ⟨rfl, rfl⟩) | (go_at_call 50; refine HM.out.mono ?_; rintro e w' ⟨rfl, n, rfl⟩) | (go_at_call 69; refine (goAlone_any b s i h0 h2 _ (PAt.drewN h n)).mono ?_; rintro e w3 ⟨rfl, hg, hk⟩))
      go_ret
      rw [FIN.out]
      exact ⟨rfl, hg, ((Kept.refl _ _).drewN _).trans hk⟩
    · cases han : s.answered i.toNat (1 - i.toNat)
      · have FIN : Hid (s.secured i.toNat k.toNat amt = (s.charged (1 - i.toNat) k.toNat amt).second i.toNat) := by simp [Hid, PC.secured, hal, har, han]
        go_enter Tryd.func57, Tryd.ntmps57
        go_wp2_with (first | (go_at_call 68; refine (other_any i h0 h2 _).mono ?_; rintro e w' ⟨rfl, rfl⟩) | (go_at_call 50; refine HM.out.mono ?_; rintro e w' ⟨rfl, n, rfl⟩) | (go_at_call 58; refine (HC.out n).mono ?_; rintro e w2 ⟨rfl, hg2, hk2⟩) | (go_at_call 69; refine (goAlone_any b (s.charged (1 - i.toNat) k.toNat amt) i h0 h2 _ hg2).mono ?_; rintro e w3 ⟨rfl, hg, hk⟩))
        go_ret
        rw [FIN.out]
        exact ⟨rfl, hg, (((Kept.refl _ _).drewN _).trans hk2).trans hk⟩
      · have FIN : Hid (s.secured i.toNat k.toNat amt = (true, s.charged (1 - i.toNat) k.toNat amt)) := by simp [Hid, PC.secured, hal, han]
        go_enter Tryd.func57, Tryd.ntmps57
        go_wp2_with (first | (go_at_call 68; refine (other_any i h0 h2 _).mono ?_; rintro e w' ⟨rfl, rfl⟩) | (go_at_call 50; refine HM.out.mono ?_; rintro e w' ⟨rfl, n, rfl⟩) | (go_at_call 58; refine (HC.out n).mono ?_; rintro e w2 ⟨rfl, hg2, hk2⟩))
        go_ret
        rw [FIN.out]
        exact ⟨rfl, hg2, ((Kept.refl _ _).drewN _).trans hk2⟩
  · have FIN : Hid (s.secured i.toNat k.toNat amt = (true, s)) := by simp [Hid, PC.secured, hal]
    go_enter Tryd.func57, Tryd.ntmps57
    go_wp2_with fail
    go_ret
    rw [FIN.out]
    exact ⟨rfl, h, Kept.refl _ _⟩

end Go.Proofs.YtpfahgogjeignabDoor

namespace Go.Proofs.YtpfahgogjeignabDoor
open Go.RowKit
attribute [local go_sem] pcg0 pcg1 pcg2 pcg3 pcg4 pcg5 pcg6 pcg7 pcg8 pcg9 pcg10 pcg11 pcg12 pcg13 pcg14 pcg15 pcg16 pcg17 pcg18 pcg19 pcg20 pcg21 pcg22 pcg23 pcg24 pcg25 pcg26 pcg27 pcg28 pcg29 pcg30 pcg31 pcg32 pcg33 pcg34 pcg35 pcg36 pcg37 pcg38 pcg39 pcg40 pcg41 pcg42
attribute [local go_sem] pcgRate pcgBurst pcgLink pcgUp pcgEpoch pcgTil pcgAlone pcgLev pcgWin

set_option maxHeartbeats 1000000 in
theorem ask_wrong (b : Nat) (s : PC) (i k cost : Int) (hw : s.wrong i k cost ≠ 0) (w : World) (h : PAt w b s) :
    Calls Tryd.prog 27 #[.pointer (some ⟨b, 0, none⟩), .int .i64 i, .int .i64 k, .int .i64 cost] w fun e w' => e = .returned (.tuple #[.int .i64 0, .int .i64 (s.wrong i k cost)]) ∧ Same w w' := by
  have e1 : (s.wrong i k cost != 0) = true := by simp [hw]
  go_enter Tryd.func27, Tryd.ntmps27
  go_wp2_with (go_at_call 54; refine (requestError_any b s i k cost _ h).mono ?_; rintro e w' ⟨rfl, rfl⟩)
  go_ret2
  exact ⟨rfl, Kept.refl _ _⟩

set_option maxHeartbeats 1000000 in
theorem ask_down (b : Nat) (s : PC) (i k cost : Int) (hw : s.wrong i k cost = 0) (h0 : 0 ≤ i) (h2 : i < 2) (hu : s.up i.toNat = false) (w : World) (h : PAt w b s) :
    Calls Tryd.prog 27 #[.pointer (some ⟨b, 0, none⟩), .int .i64 i, .int .i64 k, .int .i64 cost] w fun e w' => e = .returned (.tuple #[.int .i64 0, .int .i64 5]) ∧ Same w w' := by
  have hC := h.cell
  go_enter Tryd.func27, Tryd.ntmps27
  go_wp2_with (go_at_call 54; refine (requestError_any b s i k cost _ h).mono ?_; rintro e w' ⟨rfl, rfl⟩; simp only [hw])
  go_ret2
  exact ⟨rfl, Kept.refl _ _⟩

theorem PAt.toWin {w : World} {b : Nat} {s : PC} (h : PAt w b s) (i k v : Int) (h0 : 0 ≤ i) (h2 : i < 2) (k0 : 0 ≤ k) (k4 : k < 4) : PAt (w.setCell ⟨b, 15 + i.toNat * 12 + 8 + k.toNat, none⟩ (.int .i64 v)) b (s.setWin i.toNat k.toNat v) := PAt.of (h.bat.set _ _) (win_set s i k v h0 h2 k0 k4)

set_option maxHeartbeats 1000000 in
theorem ask_yes (b : Nat) (s : PC) (i k cost : Int) (hw : s.wrong i k cost = 0) (h0 : 0 ≤ i) (h2 : i < 2) (hu : s.up i.toNat = true) (k0 : 0 ≤ k) (kc : k < s.count) (c0 : 1 ≤ cost) (c1 : cost ≤ 2000000) (ok : s.Ok) (w : World) (h : PAt w b s) :
    Calls Tryd.prog 27 #[.pointer (some ⟨b, 0, none⟩), .int .i64 i, .int .i64 k, .int .i64 cost] w fun e w' => e = .returned (.tuple #[.int .i64 (s.asked i.toNat k.toNat cost).1, .int .i64 0]) ∧ PAt w' b (s.asked i.toNat k.toNat cost).2 ∧ Wrote b w w' := by
  have hC := h.cell
  have hF := h.free
  have k4 : k < 4 := by have := ok.count1; omega
  have w0 := ok.wn0 i.toNat k.toNat
  have w1 := ok.wn1 i.toNat k.toNat
  have d0 := ok.win0
  have d1 := ok.win1
  have l0 := ok.lev0 i.toNat k.toNat
  have l1 := ok.lev1 i.toNat k.toNat
  cases hh : s.hasLease i.toNat
  · have e : s.asked i.toNat k.toNat cost = (4, s) := by simp [PC.asked, hh]
    rw [e]
    clear e
    go_enter Tryd.func27, Tryd.ntmps27
    go_wp2_with (first | (go_at_call 54; refine (requestError_any b s i k cost _ h).mono ?_; rintro e w' ⟨rfl, rfl⟩; simp only [hw]) | (go_at_call 55; refine (hasLease_any b s i h0 h2 _ h).mono ?_; rintro e w' ⟨rfl, q, rfl⟩))
    go_ret2
    exact ⟨rfl, h, (Kept.refl _ _).drewN _⟩
  · by_cases hc : cost ≤ s.win i.toNat k.toNat
    · have FIN : Hid (s.asked i.toNat k.toNat cost = (5, s.setWin i.toNat k.toNat (s.win i.toNat k.toNat - cost))) := by simp [Hid, PC.asked, hh, hc]
      go_enter Tryd.func27, Tryd.ntmps27
      go_wp2_with (first | (go_at_call 54; refine (requestError_any b s i k cost _ h).mono ?_; rintro e w' ⟨rfl, rfl⟩; simp only [hw]) | (go_at_call 55; refine (hasLease_any b s i h0 h2 _ h).mono ?_; rintro e w' ⟨rfl, q, rfl⟩))
      go_ret2
      rw [FIN.out]
      exact ⟨rfl, (PAt.drewN h q).toWin i k _ h0 h2 k0 k4, Wrote.set ((Kept.refl _ _).drewN _) _ _⟩
    · by_cases hd : s.lev i.toNat k.toNat < cost - s.win i.toNat k.toNat
      · have e : s.asked i.toNat k.toNat cost = (6, s) := by simp [PC.asked, hh, hc, hd]
        rw [e]
        clear e
        go_enter Tryd.func27, Tryd.ntmps27
        go_wp2_with (first | (go_at_call 54; refine (requestError_any b s i k cost _ h).mono ?_; rintro e w' ⟨rfl, rfl⟩; simp only [hw]) | (go_at_call 55; refine (hasLease_any b s i h0 h2 _ h).mono ?_; rintro e w' ⟨rfl, q, rfl⟩))
        go_ret2
        exact ⟨rfl, h, (Kept.refl _ _).drewN _⟩
      · have hb := reserve_bd (lev := s.lev i.toNat k.toNat) w0 hc c1 d0 d1
        have hr := fun (q : Nat) => reserve_any b s i k (cost - s.win i.toNat k.toNat) h0 h2 k0 kc (by omega) (by omega) ok (w.drewN q) (PAt.drewN h q)
        have e0 : resN (s.lev i.toNat k.toNat) (cost - s.win i.toNat k.toNat) s.window = reserveOf (s.lev i.toNat k.toNat) (s.win i.toNat k.toNat) s.window cost := rfl
        rw [e0] at hr
        have fin : s.asked i.toNat k.toNat cost = if (s.secured i.toNat k.toNat (reserveOf (s.lev i.toNat k.toNat) (s.win i.toNat k.toNat) s.window cost)).1 then (5, ((s.secured i.toNat k.toNat (reserveOf (s.lev i.toNat k.toNat) (s.win i.toNat k.toNat) s.window cost)).2.charged i.toNat k.toNat (reserveOf (s.lev i.toNat k.toNat) (s.win i.toNat k.toNat) s.window cost)).setWin i.toNat k.toNat (reserveOf (s.lev i.toNat k.toNat) (s.win i.toNat k.toNat) s.window cost - (cost - s.win i.toNat k.toNat))) else (7, (s.secured i.toNat k.toNat (reserveOf (s.lev i.toNat k.toNat) (s.win i.toNat k.toNat) s.window cost)).2) := by
          unfold PC.asked
          rw [if_pos hh, if_neg hc, if_neg hd]
        clear e0
        generalize reserveOf (s.lev i.toNat k.toNat) (s.win i.toNat k.toNat) s.window cost = amt at *
        obtain ⟨a0, a1, g0, g1⟩ := hb
        have ok2 := secured_ok ok i.toNat k.toNat amt a0
        have kp := secured_keeps s i.toNat k.toNat amt
        have hs := fun (q : Nat) => secure_any b s i k amt h0 h2 k0 kc a0 a1 ok (w.drewN q) (PAt.drewN h q)
        generalize hsec : s.secured i.toNat k.toNat amt = sec at *
        obtain ⟨did, s2⟩ := sec
        dsimp only at ok2 kp hs fin
        have kc2 : k < s2.count := by rw [kp.2.2]; exact kc
        have hch := fun w' (hp : PAt w' b s2) => charge_any b s2 i k amt h0 h2 k0 kc2 a0 a1 ok2 w' hp
        have HR : Hid (∀ q, Calls Tryd.prog 56 #[.pointer (some ⟨b, 0, none⟩), .int .i64 i, .int .i64 k, .int .i64 (cost - s.win i.toNat k.toNat)] (w.drewN q) fun e w' => e = .returned (.int .i64 amt) ∧ ∃ q2, w' = (w.drewN q).drewN q2) := hr
        have HSS : Hid (∀ q, Calls Tryd.prog 57 #[.pointer (some ⟨b, 0, none⟩), .int .i64 i, .int .i64 k, .int .i64 amt] (w.drewN q) fun e w' => e = .returned (.bool did) ∧ PAt w' b s2 ∧ Wrote b (w.drewN q) w') := hs
        have HCH : Hid (∀ w', PAt w' b s2 → Calls Tryd.prog 58 #[.pointer (some ⟨b, 0, none⟩), .int .i64 i, .int .i64 k, .int .i64 amt] w' fun e w'' => e = .returned (.tuple #[]) ∧ PAt w'' b (s2.charged i.toNat k.toNat amt) ∧ Wrote b w' w'') := hch
        have FIN : Hid (s.asked i.toNat k.toNat cost = if did then (5, (s2.charged i.toNat k.toNat amt).setWin i.toNat k.toNat (amt - (cost - s.win i.toNat k.toNat))) else (7, s2)) := fin
        clear hr hs hch fin hsec ok2 kp
        cases did
        · go_enter Tryd.func27, Tryd.ntmps27
          go_wp2_with (first | (go_at_call 54; refine (requestError_any b s i k cost _ h).mono ?_; rintro e w' ⟨rfl, rfl⟩; simp only [hw]) | (go_at_call 55; refine (hasLease_any b s i h0 h2 _ h).mono ?_; rintro e w' ⟨rfl, q, rfl⟩) | (go_at_call 56; refine (HR.out q).mono ?_; rintro e w' ⟨rfl, q2, rfl⟩) | (go_at_call 57; refine (HSS.out (q + q2)).mono ?_; rintro e w3 ⟨rfl, hg3, hk3⟩))
          go_ret2
          rw [FIN.out]
          exact ⟨rfl, hg3, ((Kept.refl _ _).drewN _).trans hk3⟩
        · go_enter Tryd.func27, Tryd.ntmps27
          go_wp2_with (first | (go_at_call 54; refine (requestError_any b s i k cost _ h).mono ?_; rintro e w' ⟨rfl, rfl⟩; simp only [hw]) | (go_at_call 55; refine (hasLease_any b s i h0 h2 _ h).mono ?_; rintro e w' ⟨rfl, q, rfl⟩) | (go_at_call 56; refine (HR.out q).mono ?_; rintro e w' ⟨rfl, q2, rfl⟩) | (go_at_call 57; refine (HSS.out (q + q2)).mono ?_; rintro e w3 ⟨rfl, hg3, hk3⟩) | (go_at_call 58; refine (HCH.out _ hg3).mono ?_; rintro e w4 ⟨rfl, hg4, hk4⟩; have hF4 := hg4.free; have hC4 := hg4.cell))
          go_ret2
          rw [FIN.out]
          exact ⟨rfl, hg4.toWin i k _ h0 h2 k0 k4, Wrote.set ((((Kept.refl _ _).drewN _).trans hk3).trans hk4) _ _⟩

end Go.Proofs.YtpfahgogjeignabDoor
