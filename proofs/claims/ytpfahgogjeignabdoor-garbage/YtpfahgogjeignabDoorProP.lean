/-
  The program's Join and Wait.
-/
import Derived.Test.YtpfahgogjeignabDoorProM
set_option linter.unusedVariables false
set_option linter.unusedSimpArgs false
namespace Go.Proofs.YtpfahgogjeignabDoor
open Go.RowKit
attribute [local go_sem] pcg0 pcg1 pcg2 pcg3 pcg4 pcg5 pcg6 pcg7 pcg8 pcg9 pcg10 pcg11 pcg12 pcg13 pcg14 pcg15 pcg16 pcg17 pcg18 pcg19 pcg20 pcg21 pcg22 pcg23 pcg24 pcg25 pcg26 pcg27 pcg28 pcg29 pcg30 pcg31 pcg32 pcg33 pcg34 pcg35 pcg36 pcg37 pcg38 pcg39 pcg40 pcg41 pcg42
attribute [local go_sem] pcgRate pcgBurst pcgLink pcgUp pcgEpoch pcgTil pcgAlone pcgLev pcgWin

theorem unsolo_set (s : PC) : (pcArr s).setIfInBounds 42 (.bool false) = pcArr s.unsoloed := rfl
theorem unalone_set (s : PC) (i : Int) (h0 : 0 ≤ i) (h : i < 2) : (pcArr s).setIfInBounds (15 + i.toNat * 12 + 3) (.bool false) = pcArr (s.unaloned i.toNat) := by
  rcases lt2 h0 h with rfl | rfl <;> rfl
theorem PAt.toUnsolo {w : World} {b : Nat} {s : PC} (h : PAt w b s) : PAt (w.setCell ⟨b, 42, none⟩ (.bool false)) b s.unsoloed := PAt.of (h.bat.set _ _) (unsolo_set s)
theorem PAt.toUnalone {w : World} {b : Nat} {s : PC} (h : PAt w b s) (i : Int) (h0 : 0 ≤ i) (h2 : i < 2) : PAt (w.setCell ⟨b, 15 + i.toNat * 12 + 3, none⟩ (.bool false)) b (s.unaloned i.toNat) := PAt.of (h.bat.set _ _) (unalone_set s i h0 h2)
theorem copied_arr0 (s : PC) : ((((pcArr s).setIfInBounds 31 (.int .i64 (s.lev 0 0))).setIfInBounds 32 (.int .i64 (s.lev 0 1))).setIfInBounds 33 (.int .i64 (s.lev 0 2))).setIfInBounds 34 (.int .i64 (s.lev 0 3)) = pcArr (s.copied 0) := by
  simp only [pcArr, List.setIfInBounds_toArray, List.set_cons_succ, List.set_cons_zero]
  rfl
theorem copied_arr1 (s : PC) : ((((pcArr s).setIfInBounds 19 (.int .i64 (s.lev 1 0))).setIfInBounds 20 (.int .i64 (s.lev 1 1))).setIfInBounds 21 (.int .i64 (s.lev 1 2))).setIfInBounds 22 (.int .i64 (s.lev 1 3)) = pcArr (s.copied 1) := by
  simp only [pcArr, List.setIfInBounds_toArray, List.set_cons_succ, List.set_cons_zero]
  rfl

set_option maxHeartbeats 1000000 in
theorem endSolo_any (b : Nat) (s : PC) (i : Int) (h0 : 0 ≤ i) (h2 : i < 2) (w : World) (h : PAt w b s) :
    Calls Tryd.prog 60 #[.pointer (some ⟨b, 0, none⟩), .int .i64 i] w fun e w' => e = .returned (.bool (s.answered i.toNat 2)) ∧ PAt w' b (if s.arrives i.toNat 2 then s.unsoloed else s) ∧ Wrote b w w' := by
  have hC := h.cell
  have hF := h.free
  have hi := lt2 h0 h2
  cases ha : s.arrives i.toNat 2
  · simp only [Bool.false_eq_true, if_false]
    go_enter Tryd.func60, Tryd.ntmps60
    go_wp2_with (go_at_call 50; refine (message_any b s i 2 hi (.inl rfl) _ h).mono ?_; rintro e w' ⟨rfl, n, rfl⟩; simp only [show (2 : Int).toNat = 2 from rfl])
    go_ret
    exact ⟨rfl, h, (Kept.refl _ _).drewN _⟩
  · simp only [if_true]
    go_enter Tryd.func60, Tryd.ntmps60
    go_wp2_with (go_at_call 50; refine (message_any b s i 2 hi (.inl rfl) _ h).mono ?_; rintro e w' ⟨rfl, n, rfl⟩; simp only [show (2 : Int).toNat = 2 from rfl])
    go_ret
    exact ⟨rfl, (PAt.drewN h n).toUnsolo, Wrote.set ((Kept.refl _ _).drewN _) _ _⟩

set_option maxHeartbeats 1000000 in
theorem tellLevels_0 (b : Nat) (s : PC) (w : World) (h : PAt w b s) :
    Calls Tryd.prog 59 #[.pointer (some ⟨b, 0, none⟩), .int .i64 0] w fun e w' => e = .returned (.bool (s.answered 0 1)) ∧ PAt w' b (if s.arrives 0 1 then s.copied 0 else s) ∧ Wrote b w w' := by
  have hC := h.cell
  have hF := h.free
  have HM : Hid (Calls Tryd.prog 50 #[.pointer (some ⟨b, 0, none⟩), .int .i64 0, .int .i64 1] w fun e' w' => e' = .returned (.tuple #[.bool (s.arrives 0 1), .bool (s.answered 0 1)]) ∧ ∃ n, w' = w.drewN n) := message_any b s 0 1 (.inl rfl) (.inr rfl) w h
  have HO : Hid (Calls Tryd.prog 68 #[.int .i64 0] w fun e w' => e = .returned (.int .i64 1) ∧ w' = w) := other_any 0 (by omega) (by omega) w
  cases ha : s.arrives 0 1
  · simp only [Bool.false_eq_true, if_false]
    go_enter Tryd.func59, Tryd.ntmps59
    go_wp2_with (first | (go_at_call 68; refine HO.out.mono ?_; rintro e w' ⟨rfl, rfl⟩) | (go_at_call 50; refine HM.out.mono ?_; rintro e w' ⟨rfl, n, rfl⟩))
    go_ret
    exact ⟨rfl, h, (Kept.refl _ _).drewN _⟩
  · simp only [if_true]
    go_enter Tryd.func59, Tryd.ntmps59
    go_wp2_with (first | (go_at_call 68; refine HO.out.mono ?_; rintro e w' ⟨rfl, rfl⟩) | (go_at_call 50; refine HM.out.mono ?_; rintro e w' ⟨rfl, n, rfl⟩))
    go_region_with fail
    go_wp2_with fail
    go_ret
    have hb := ((((PAt.drewN h (n + 1)).bat.set 31 (.int .i64 (s.lev 0 0))).set 32 (.int .i64 (s.lev 0 1))).set 33 (.int .i64 (s.lev 0 2))).set 34 (.int .i64 (s.lev 0 3))
    rw [copied_arr0] at hb
    exact ⟨rfl, hb, Wrote.set (Wrote.set (Wrote.set (Wrote.set ((Kept.refl _ _).drewN _) _ _) _ _) _ _) _ _⟩

set_option maxHeartbeats 1000000 in
theorem tellLevels_1 (b : Nat) (s : PC) (w : World) (h : PAt w b s) :
    Calls Tryd.prog 59 #[.pointer (some ⟨b, 0, none⟩), .int .i64 1] w fun e w' => e = .returned (.bool (s.answered 1 0)) ∧ PAt w' b (if s.arrives 1 0 then s.copied 1 else s) ∧ Wrote b w w' := by
  have hC := h.cell
  have hF := h.free
  have HM : Hid (Calls Tryd.prog 50 #[.pointer (some ⟨b, 0, none⟩), .int .i64 1, .int .i64 0] w fun e' w' => e' = .returned (.tuple #[.bool (s.arrives 1 0), .bool (s.answered 1 0)]) ∧ ∃ n, w' = w.drewN n) := message_any b s 1 0 (.inr rfl) (.inr rfl) w h
  have HO : Hid (Calls Tryd.prog 68 #[.int .i64 1] w fun e w' => e = .returned (.int .i64 0) ∧ w' = w) := other_any 1 (by omega) (by omega) w
  cases ha : s.arrives 1 0
  · simp only [Bool.false_eq_true, if_false]
    go_enter Tryd.func59, Tryd.ntmps59
    go_wp2_with (first | (go_at_call 68; refine HO.out.mono ?_; rintro e w' ⟨rfl, rfl⟩) | (go_at_call 50; refine HM.out.mono ?_; rintro e w' ⟨rfl, n, rfl⟩))
    go_ret
    exact ⟨rfl, h, (Kept.refl _ _).drewN _⟩
  · simp only [if_true]
    go_enter Tryd.func59, Tryd.ntmps59
    go_wp2_with (first | (go_at_call 68; refine HO.out.mono ?_; rintro e w' ⟨rfl, rfl⟩) | (go_at_call 50; refine HM.out.mono ?_; rintro e w' ⟨rfl, n, rfl⟩))
    go_region_with fail
    go_wp2_with fail
    go_ret
    have hb := ((((PAt.drewN h (n + 1)).bat.set 19 (.int .i64 (s.lev 1 0))).set 20 (.int .i64 (s.lev 1 1))).set 21 (.int .i64 (s.lev 1 2))).set 22 (.int .i64 (s.lev 1 3))
    rw [copied_arr1] at hb
    exact ⟨rfl, hb, Wrote.set (Wrote.set (Wrote.set (Wrote.set ((Kept.refl _ _).drewN _) _ _) _ _) _ _) _ _⟩

theorem tellLevels_any (b : Nat) (s : PC) (i : Int) (h0 : 0 ≤ i) (h2 : i < 2) (w : World) (h : PAt w b s) :
    Calls Tryd.prog 59 #[.pointer (some ⟨b, 0, none⟩), .int .i64 i] w fun e w' => e = .returned (.bool (s.answered i.toNat (1 - i.toNat))) ∧ PAt w' b (if s.arrives i.toNat (1 - i.toNat) then s.copied i.toNat else s) ∧ Wrote b w w' := by
  rcases lt2 h0 h2 with rfl | rfl
  · exact tellLevels_0 b s w h
  · exact tellLevels_1 b s w h

set_option maxHeartbeats 400000 in
theorem join_noNode (b : Nat) (i : Int) (hi : isNodeB i = false) (w : World) :
    Calls Tryd.prog 28 #[.pointer (some ⟨b, 0, none⟩), .int .i64 i] w fun e' w' => e' = .returned (.tuple #[.int .i64 0, .int .i64 4]) ∧ Same w w' := by
  go_enter Tryd.func28, Tryd.ntmps28
  go_wp2_with (go_at_call 48; refine (upError_no b i hi _).mono ?_; rintro e w' ⟨rfl, rfl⟩)
  go_ret2
  exact ⟨rfl, Kept.refl _ _⟩

set_option maxHeartbeats 400000 in
theorem join_down (b : Nat) (s : PC) (i : Int) (h0 : 0 ≤ i) (h2 : i < 2) (hu : s.up i.toNat = false) (w : World) (h : PAt w b s) :
    Calls Tryd.prog 28 #[.pointer (some ⟨b, 0, none⟩), .int .i64 i] w fun e' w' => e' = .returned (.tuple #[.int .i64 0, .int .i64 5]) ∧ Same w w' := by
  have hC := h.cell
  go_enter Tryd.func28, Tryd.ntmps28
  go_wp2_with (go_at_call 48; refine (upError_down b s i h0 h2 hu _ h).mono ?_; rintro e w' ⟨rfl, rfl⟩)
  go_ret2
  exact ⟨rfl, Kept.refl _ _⟩

set_option maxHeartbeats 1000000 in
theorem join_yes (b : Nat) (s : PC) (i : Int) (h0 : 0 ≤ i) (h2 : i < 2) (hu : s.up i.toNat = true) (w : World) (h : PAt w b s) :
    Calls Tryd.prog 28 #[.pointer (some ⟨b, 0, none⟩), .int .i64 i] w fun e' w' => e' = .returned (.tuple #[.int .i64 (s.joined i.toNat).1, .int .i64 0]) ∧ PAt w' b (s.joined i.toNat).2 ∧ Wrote b w w' := by
  have hC := h.cell
  have hF := h.free
  have HU : Hid (Calls Tryd.prog 48 #[.pointer (some ⟨b, 0, none⟩), .int .i64 i] w fun e' w' => e' = .returned (.int .i64 0) ∧ w' = w) := upError_up b s i h0 h2 hu w h
  have HL : Hid (Calls Tryd.prog 55 #[.pointer (some ⟨b, 0, none⟩), .int .i64 i] w fun e w' => e = .returned (.bool (s.hasLease i.toNat)) ∧ ∃ n, w' = w.drewN n) := hasLease_any b s i h0 h2 w h
  have HT : Hid (∀ n, Calls Tryd.prog 59 #[.pointer (some ⟨b, 0, none⟩), .int .i64 i] ((w.drewN n).setCell ⟨b, 15 + i.toNat * 12 + 3, none⟩ (.bool false)) fun e w' => e = .returned (.bool (s.answered i.toNat (1 - i.toNat))) ∧ PAt w' b (if s.arrives i.toNat (1 - i.toNat) then (s.unaloned i.toNat).copied i.toNat else s.unaloned i.toNat) ∧ Wrote b ((w.drewN n).setCell ⟨b, 15 + i.toNat * 12 + 3, none⟩ (.bool false)) w') := fun n => tellLevels_any b (s.unaloned i.toNat) i h0 h2 _ ((PAt.drewN h n).toUnalone i h0 h2)
  cases hl : s.hasLease i.toNat
  · have FIN : Hid (s.joined i.toNat = (4, s)) := by simp [Hid, PC.joined, hl]
    go_enter Tryd.func28, Tryd.ntmps28
    go_wp2_with (first | (go_at_call 48; refine HU.out.mono ?_; rintro e w' ⟨rfl, rfl⟩) | (go_at_call 55; refine HL.out.mono ?_; rintro e w' ⟨rfl, q, rfl⟩))
    go_ret2
    rw [FIN.out]
    exact ⟨rfl, h, (Kept.refl _ _).drewN _⟩
  · cases han : s.answered i.toNat (1 - i.toNat)
    · have FIN : Hid (s.joined i.toNat = (0, if s.arrives i.toNat (1 - i.toNat) then (s.unaloned i.toNat).copied i.toNat else s.unaloned i.toNat)) := by simp [Hid, PC.joined, hl, han]
      go_enter Tryd.func28, Tryd.ntmps28
      go_wp2_with (first | (go_at_call 48; refine HU.out.mono ?_; rintro e w' ⟨rfl, rfl⟩) | (go_at_call 55; refine HL.out.mono ?_; rintro e w' ⟨rfl, q, rfl⟩) | (go_at_call 59; refine (HT.out q).mono ?_; rintro e w2 ⟨rfl, hg2, hk2⟩))
      go_ret2
      rw [FIN.out]
      exact ⟨rfl, hg2, (Wrote.set ((Kept.refl _ _).drewN _) _ _).trans hk2⟩
    · have har : s.arrives i.toNat (1 - i.toNat) = true := by
        unfold PC.answered at han
        simp only [Bool.and_eq_true] at han
        exact han.1
      have HE : Hid (∀ w2, PAt w2 b (if s.arrives i.toNat (1 - i.toNat) then (s.unaloned i.toNat).copied i.toNat else s.unaloned i.toNat) → Calls Tryd.prog 60 #[.pointer (some ⟨b, 0, none⟩), .int .i64 i] w2 fun e w' => e = .returned (.bool (s.answered i.toNat 2)) ∧ PAt w' b (((s.unaloned i.toNat).copied i.toNat).joinEnd i.toNat).2 ∧ Wrote b w2 w') := by
        intro w2 hp
        rw [if_pos har] at hp
        exact endSolo_any b _ i h0 h2 w2 hp
      cases ha2 : s.answered i.toNat 2
      all_goals
        have FIN : Hid (s.joined i.toNat = (if s.answered i.toNat 2 then 3 else 0, (((s.unaloned i.toNat).copied i.toNat).joinEnd i.toNat).2)) := by
          unfold Hid PC.joined
          rw [if_pos hl, if_pos han]
          rfl
        rw [ha2] at FIN
        go_enter Tryd.func28, Tryd.ntmps28
        go_wp2_with (first | (go_at_call 48; refine HU.out.mono ?_; rintro e w' ⟨rfl, rfl⟩) | (go_at_call 55; refine HL.out.mono ?_; rintro e w' ⟨rfl, q, rfl⟩) | (go_at_call 59; refine (HT.out q).mono ?_; rintro e w2 ⟨rfl, hg2, hk2⟩) | (go_at_call 60; refine (HE.out _ (by assumption)).mono ?_; rintro e w3 ⟨rfl, hg3, hk3⟩))
        go_ret2
        rw [FIN.out]
        exact ⟨rfl, hg3, ((Wrote.set ((Kept.refl _ _).drewN _) _ _).trans hk2).trans hk3⟩

theorem join_does {s : PC} (ok : s.Ok) (b : Nat) (i : Int) : PDoes 28 [.int .i64 i] b s (s.joinR i).2 (.tuple #[.int .i64 (s.joinR i).1.1, .int .i64 (s.joinR i).1.2]) := by
  unfold PC.joinR
  cases hi : isNodeB i
  · exact pdoes_not (fun w _ => join_noNode b i hi w)
  · obtain ⟨i0, i2⟩ := node_bd hi
    cases hu : s.up i.toNat
    · exact pdoes_not (fun w hw => join_down b s i i0 i2 hu w hw)
    · exact fun w hw => join_yes b s i i0 i2 hu w hw

set_option maxHeartbeats 1000000 in
theorem ticksTo_any (b : Nat) (s : PC) (k l g : Int) (k0 : 0 ≤ k) (k4 : k < 4) (l0 : 0 ≤ l) (l1 : l ≤ 1000000) (g0 : -1000000 ≤ g) (g1 : g ≤ 2000000) (ok : s.Ok) (w : World) (h : PAt w b s) :
    Calls Tryd.prog 61 #[.pointer (some ⟨b, 0, none⟩), .int .i64 k, .int .i64 l, .int .i64 g] w fun e w' => e = .returned (.int .i64 (waitOf l g (s.rate k.toNat) (s.burst k.toNat - s.window))) ∧ ∃ q, w' = w.drewN q := by
  have hC := h.cell
  have r0 := ok.rate0 k.toNat
  have r1 := ok.rate1 k.toNat
  have b0 := ok.burst0 k.toNat
  have b1 := ok.burst1 k.toNat
  have d0 := ok.win0
  have d1 := ok.win1
  have HR : Hid (∀ n, Calls Tryd.prog 43 #[.pointer (some ⟨b, 0, none⟩), .int .i64 k] (w.drewN n) fun e w' => e = .returned (.int .i64 (s.burst k.toNat - s.window)) ∧ ∃ n', w' = (w.drewN n).drewN n') := fun n => room_any b s k k0 k4 _ (PAt.drewN h n) ok
  by_cases hl : g ≤ l
  · have FIN : Hid (waitOf l g (s.rate k.toNat) (s.burst k.toNat - s.window) = 0) := if_pos hl
    go_enter Tryd.func61, Tryd.ntmps61
    go_wp2_with fail
    go_ret
    rw [FIN.out]
    exact ⟨rfl, 0, rfl⟩
  · have hge : decide (l ≥ g) = false := decide_eq_false (by omega)
    by_cases hr : s.rate k.toNat < 1
    · have FIN : Hid (waitOf l g (s.rate k.toNat) (s.burst k.toNat - s.window) = -1) := by
        unfold Hid waitOf
        rw [if_neg hl, if_pos (.inl (by omega))]
      go_enter Tryd.func61, Tryd.ntmps61
      go_wp2_with fail
      go_ret
      rw [FIN.out]
      exact ⟨rfl, 0, rfl⟩
    · by_cases hg : s.burst k.toNat - s.window < g
      · have FIN : Hid (waitOf l g (s.rate k.toNat) (s.burst k.toNat - s.window) = -1) := by
          unfold Hid waitOf
          rw [if_neg hl, if_pos (.inr hg)]
        go_enter Tryd.func61, Tryd.ntmps61
        go_wp2_with (go_at_call 43; refine (HR.out 0).mono ?_; rintro e w' ⟨rfl, q, rfl⟩)
        go_ret
        rw [FIN.out]
        exact ⟨rfl, _, rfl⟩
      · have FIN : Hid (waitOf l g (s.rate k.toNat) (s.burst k.toNat - s.window) = (g - l + s.rate k.toNat - 1) / s.rate k.toNat) := by
          unfold Hid waitOf
          rw [if_neg hl, if_neg (by omega)]
        have hz : (s.rate k.toNat == 0) = false := by simp; omega
        go_enter Tryd.func61, Tryd.ntmps61
        go_wp2_with (go_at_call 43; refine (HR.out 0).mono ?_; rintro e w' ⟨rfl, q, rfl⟩)
        go_ret
        rw [FIN.out]
        exact ⟨rfl, _, rfl⟩

set_option maxHeartbeats 1000000 in
theorem wait_wrong (b : Nat) (s : PC) (i k cost : Int) (hw : s.wrong i k cost ≠ 0) (w : World) (h : PAt w b s) :
    Calls Tryd.prog 29 #[.pointer (some ⟨b, 0, none⟩), .int .i64 i, .int .i64 k, .int .i64 cost] w fun e w' => e = .returned (.tuple #[.int .i64 0, .int .i64 (s.wrong i k cost)]) ∧ Same w w' := by
  have e1 : (s.wrong i k cost != 0) = true := by simp [hw]
  go_enter Tryd.func29, Tryd.ntmps29
  go_wp2_with (go_at_call 54; refine (requestError_any b s i k cost _ h).mono ?_; rintro e w' ⟨rfl, rfl⟩)
  go_ret2
  exact ⟨rfl, Kept.refl _ _⟩

set_option maxHeartbeats 1000000 in
theorem wait_yes (b : Nat) (s : PC) (i k cost : Int) (hw : s.wrong i k cost = 0) (h0 : 0 ≤ i) (h2 : i < 2) (k0 : 0 ≤ k) (kc : k < s.count) (c0 : 1 ≤ cost) (c1 : cost ≤ 2000000) (ok : s.Ok) (w : World) (h : PAt w b s) :
    Calls Tryd.prog 29 #[.pointer (some ⟨b, 0, none⟩), .int .i64 i, .int .i64 k, .int .i64 cost] w fun e w' => e = .returned (.tuple #[.int .i64 (waitOf (s.lev i.toNat k.toNat) (cost - s.win i.toNat k.toNat) (s.rate k.toNat) (s.burst k.toNat - s.window)), .int .i64 0]) ∧ Same w w' := by
  have hC := h.cell
  have k4 : k < 4 := by have := ok.count1; omega
  have w0 := ok.wn0 i.toNat k.toNat
  have w1 := ok.wn1 i.toNat k.toNat
  have d0 := ok.win0
  have d1 := ok.win1
  have l0 := ok.lev0 i.toNat k.toNat
  have l1 := ok.lev1 i.toNat k.toNat
  have HR : Hid (Calls Tryd.prog 54 #[.pointer (some ⟨b, 0, none⟩), .int .i64 i, .int .i64 k, .int .i64 cost] w fun e w' => e = .returned (.int .i64 0) ∧ w' = w) := by
    have := requestError_any b s i k cost w h
    rw [hw] at this
    exact this
  have HT : Hid (∀ n, Calls Tryd.prog 61 #[.pointer (some ⟨b, 0, none⟩), .int .i64 k, .int .i64 (s.lev i.toNat k.toNat), .int .i64 (cost - s.win i.toNat k.toNat)] (w.drewN n) fun e w' => e = .returned (.int .i64 (waitOf (s.lev i.toNat k.toNat) (cost - s.win i.toNat k.toNat) (s.rate k.toNat) (s.burst k.toNat - s.window))) ∧ ∃ q, w' = (w.drewN n).drewN q) := fun n => ticksTo_any b s k _ _ k0 k4 l0 l1 (by omega) (by omega) ok _ (PAt.drewN h n)
  go_enter Tryd.func29, Tryd.ntmps29
  go_wp2_with (first | (go_at_call 54; refine HR.out.mono ?_; rintro e w' ⟨rfl, rfl⟩) | (go_at_call 61; refine (HT.out 0).mono ?_; rintro e w' ⟨rfl, q, rfl⟩))
  go_ret2
  exact ⟨rfl, (Kept.refl _ _).drewN _⟩

theorem wait_does {s : PC} (ok : s.Ok) (b : Nat) (i k cost : Int) : PDoes 29 [.int .i64 i, .int .i64 k, .int .i64 cost] b s s (.tuple #[.int .i64 (s.waitR i k cost).1, .int .i64 (s.waitR i k cost).2]) := by
  unfold PC.waitR
  by_cases hw : s.wrong i k cost = 0
  · rw [if_pos hw]
    obtain ⟨hi, k0, kn, c0, c1⟩ := pwrong_bd hw
    obtain ⟨i0, i2⟩ := node_bd hi
    exact pdoes_not (fun w hp => wait_yes b s i k cost hw i0 i2 k0 kn c0 c1 ok w hp)
  · rw [if_neg hw]
    exact pdoes_not (fun w hp => wait_wrong b s i k cost hw w hp)

end Go.Proofs.YtpfahgogjeignabDoor
