/-
  The program's Campaign.
-/
import Derived.Test.YtpfahgogjeignabDoorProC
set_option linter.unusedVariables false
set_option linter.unusedSimpArgs false
namespace Go.Proofs.YtpfahgogjeignabDoor
open Go.RowKit
attribute [local go_sem] pcg0 pcg1 pcg2 pcg3 pcg4 pcg5 pcg6 pcg7 pcg8 pcg9 pcg10 pcg11 pcg12 pcg13 pcg14 pcg15 pcg16 pcg17 pcg18 pcg19 pcg20 pcg21 pcg22 pcg23 pcg24 pcg25 pcg26 pcg27 pcg28 pcg29 pcg30 pcg31 pcg32 pcg33 pcg34 pcg35 pcg36 pcg37 pcg38 pcg39 pcg40 pcg41 pcg42
attribute [local go_sem] pcgRate pcgBurst pcgLink pcgUp pcgEpoch pcgTil pcgAlone pcgLev pcgWin

/-- What Campaign answers, and what it leaves. -/
def PC.campaigned (s : PC) (i : Int) : Int × PC :=
  if s.arrives i.toNat 2 then
    if s.mayLead i then (if s.answered i.toNat 2 then (1, (s.granted i).took i.toNat) else (0, s.granted i))
    else (if s.answered i.toNat 2 then 2 else 0, s)
  else (0, s)

set_option maxHeartbeats 400000 in
theorem campaign_noNode (b : Nat) (i : Int) (hi : isNodeB i = false) (w : World) :
    Calls Tryd.prog 26 #[.pointer (some ⟨b, 0, none⟩), .int .i64 i] w fun e' w' => e' = .returned (.tuple #[.int .i64 0, .int .i64 4]) ∧ Same w w' := by
  go_enter Tryd.func26, Tryd.ntmps26
  go_wp2_with (go_at_call 48; refine (upError_no b i hi _).mono ?_; rintro e w' ⟨rfl, rfl⟩)
  go_ret2
  exact ⟨rfl, Kept.refl _ _⟩

set_option maxHeartbeats 400000 in
theorem campaign_down (b : Nat) (s : PC) (i : Int) (h0 : 0 ≤ i) (h2 : i < 2) (hu : s.up i.toNat = false) (w : World) (h : PAt w b s) :
    Calls Tryd.prog 26 #[.pointer (some ⟨b, 0, none⟩), .int .i64 i] w fun e' w' => e' = .returned (.tuple #[.int .i64 0, .int .i64 5]) ∧ Same w w' := by
  have hC := h.cell
  have hn : isNodeB i = true := by rcases lt2 h0 h2 with rfl | rfl <;> rfl
  go_enter Tryd.func26, Tryd.ntmps26
  go_wp2_with (go_at_call 48; refine (upError_down b s i h0 h2 hu _ h).mono ?_; rintro e w' ⟨rfl, rfl⟩)
  go_ret2
  exact ⟨rfl, Kept.refl _ _⟩

theorem granted_ok {s : PC} (ok : s.Ok) (i : Int) : (s.granted i).Ok := by
  unfold PC.granted
  split <;> exact ⟨ok.lease0, ok.lease1, ok.win0, ok.win1, ok.count0, ok.count1, ok.rate0, ok.rate1, ok.burst0, ok.burst1, ok.fits, ok.now0, ok.now1, ok.lev0, ok.lev1, ok.wn0, ok.wn1⟩

set_option maxHeartbeats 1000000 in
theorem campaign_yes (b : Nat) (s : PC) (i : Int) (h0 : 0 ≤ i) (h2 : i < 2) (hu : s.up i.toNat = true) (ok : s.Ok) (w : World) (hP : PAt w b s) :
    Calls Tryd.prog 26 #[.pointer (some ⟨b, 0, none⟩), .int .i64 i] w fun e' w' => e' = .returned (.tuple #[.int .i64 (s.campaigned i).1, .int .i64 0]) ∧ PAt w' b (s.campaigned i).2 ∧ Wrote b w w' := by
  have hC := hP.cell
  have hn : isNodeB i = true := by rcases lt2 h0 h2 with rfl | rfl <;> rfl
  have hi : i = 0 ∨ i = 1 := lt2 h0 h2
  cases ha : s.arrives i.toNat 2
  · have e : s.campaigned i = (0, s) := by simp [PC.campaigned, ha]
    rw [e]
    clear e
    go_enter Tryd.func26, Tryd.ntmps26
    go_wp2_with (first | (go_at_call 48; refine (upError_up b s i h0 h2 hu _ hP).mono ?_; rintro e w' ⟨rfl, rfl⟩) | (go_at_call 50; refine (message_any b s i 2 hi (.inl rfl) _ hP).mono ?_; rintro e w' ⟨rfl, n, rfl⟩; simp only [show (2 : Int).toNat = 2 from rfl]))
    go_ret2
    exact ⟨rfl, hP, (Kept.refl _ _).drewN _⟩
  · cases hm : s.mayLead i
    · have e : s.campaigned i = (if s.answered i.toNat 2 then 2 else 0, s) := by simp [PC.campaigned, ha, hm]
      rw [e]
      clear e
      cases hw : s.answered i.toNat 2
      all_goals
        go_enter Tryd.func26, Tryd.ntmps26
        go_wp2_with (first | (go_at_call 48; refine (upError_up b s i h0 h2 hu _ hP).mono ?_; rintro e w' ⟨rfl, rfl⟩) | (go_at_call 50; refine (message_any b s i 2 hi (.inl rfl) _ hP).mono ?_; rintro e w' ⟨rfl, n, rfl⟩; simp only [show (2 : Int).toNat = 2 from rfl]) | (go_at_call 51; refine (mayLead_any b s i _ (by exact hP)).mono ?_; rintro e w' ⟨rfl, n', rfl⟩))
        go_ret2
        exact ⟨rfl, hP, (Kept.refl _ _).drewN _⟩
    · cases hw : s.answered i.toNat 2
      · have e : s.campaigned i = (0, s.granted i) := by simp [PC.campaigned, ha, hm, hw]
        rw [e]
        clear e
        go_enter Tryd.func26, Tryd.ntmps26
        go_wp2_with (first | (go_at_call 48; refine (upError_up b s i h0 h2 hu _ hP).mono ?_; rintro e w' ⟨rfl, rfl⟩) | (go_at_call 50; refine (message_any b s i 2 hi (.inl rfl) _ hP).mono ?_; rintro e w' ⟨rfl, n, rfl⟩; simp only [show (2 : Int).toNat = 2 from rfl]) | (go_at_call 51; refine (mayLead_any b s i _ (by exact hP)).mono ?_; rintro e w' ⟨rfl, n', rfl⟩) | (go_at_call 52; refine (grant_any b s i ok _ (by exact hP)).mono ?_; rintro e w2 ⟨rfl, hg, hw2⟩))
        go_ret2
        exact ⟨rfl, hg, ((Kept.refl _ _).drewN _).trans hw2⟩
      · have e : s.campaigned i = (1, (s.granted i).took i.toNat) := by simp [PC.campaigned, ha, hm, hw]
        rw [e]
        clear e
        go_enter Tryd.func26, Tryd.ntmps26
        go_wp2_with (first | (go_at_call 48; refine (upError_up b s i h0 h2 hu _ hP).mono ?_; rintro e w' ⟨rfl, rfl⟩) | (go_at_call 50; refine (message_any b s i 2 hi (.inl rfl) _ hP).mono ?_; rintro e w' ⟨rfl, n, rfl⟩; simp only [show (2 : Int).toNat = 2 from rfl]) | (go_at_call 51; refine (mayLead_any b s i _ (by exact hP)).mono ?_; rintro e w' ⟨rfl, n', rfl⟩) | (go_at_call 52; refine (grant_any b s i ok _ (by exact hP)).mono ?_; rintro e w2 ⟨rfl, hg, hw2⟩) | (go_at_call 53; refine (takeLease_any b (s.granted i) i h0 h2 _ (by exact hg)).mono ?_; rintro e w3 ⟨rfl, hg3, hw3⟩))
        go_ret2
        exact ⟨rfl, hg3, (((Kept.refl _ _).drewN _).trans hw2).trans hw3⟩

end Go.Proofs.YtpfahgogjeignabDoor
