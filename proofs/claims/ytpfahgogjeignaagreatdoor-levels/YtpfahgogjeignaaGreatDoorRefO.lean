/-
  The document's Join.
-/
import Derived.Test.YtpfahgogjeignaaGreatDoorRefL
set_option linter.unusedVariables false
set_option linter.unusedSimpArgs false
namespace Go.Proofs.YtpfahgogjeignaaGreatDoor
open Go.RowKit
attribute [local go_sem] rg0 rg1 rg2 rg3 rg4 rg5 rg6 rg7 rg8 rg9 rg10 sg0 sg1 sg2 sg3 sg4 sg5 mg0 mg1 mg2 mgk fArr_get

def RS.unaloned (s : RS) (i : Nat) : RS := s.withSide i (s.up i) (s.sep i) (s.stil i) false (s.win i)
def RS.unsoloed (s : RS) : RS := { s with solo := false }
/-- The other's levels become those of node i, for the tenants below k. -/
def RS.copied (s : RS) (i : Nat) : Nat → RS
  | 0 => s
  | k + 1 => (s.copied i k).did (1 - i) k ((s.copied i k).level i k) true
/-- The second message of a join. -/
def RS.joinEnd (s : RS) (i : Nat) : Int × RS := (if s.answered i 2 then 3 else 0, if s.arrives i 2 then s.unsoloed else s)
/-- What Join answers where the node is up, and what it leaves. -/
def RS.joined (s : RS) (i : Nat) : Int × RS :=
  if s.leased i then
    if s.answered i (1 - i) then ((s.unaloned i).copied i s.n).joinEnd i
    else (0, if s.arrives i (1 - i) then (s.unaloned i).copied i s.n else s.unaloned i)
  else (4, s)

theorem RAt.toUnsolo {w : World} {A : RA} {s : RS} (h : RAt w A s) : RAt (w.setCell ⟨A.c, 8, none⟩ (.bool false)) A s.unsoloed ∧ RStep s.n A A w (w.setCell ⟨A.c, 8, none⟩ (.bool false)) := by
  have k : Kept (fun g => g = A.c) w (w.setCell ⟨A.c, 8, none⟩ (.bool false)) := Wrote.set (Kept.refl _ _) _ _
  exact ⟨h.setC s.now s.holder s.epoch s.til false k (h.c.set _ _), rfl, rfl, k.mono (fun g e => in_all (by rw [e]; simp [RA.all])), fun _ h => .inl h⟩
theorem sArr_unalone (A : RA) (s : RS) (i : Nat) : (sArr A s i).setIfInBounds 3 (.bool false) = sArr (A.withWin i (A.win i)) (s.unaloned i) i := by
  unfold sArr RS.unaloned RS.withSide RA.withWin
  simp [upd_same]
theorem RAt.toUnalone {w : World} {A : RA} {s : RS} (h : RAt w A s) (i : Nat) (i2 : i < 2) : RAt (w.setCell ⟨A.side i, 3, none⟩ (.bool false)) (A.withWin i (A.win i)) (s.unaloned i) ∧ RStep s.n A (A.withWin i (A.win i)) w (w.setCell ⟨A.side i, 3, none⟩ (.bool false)) := by
  have k : Kept (fun x => x = A.side i) w (w.setCell ⟨A.side i, 3, none⟩ (.bool false)) := Wrote.set (Kept.refl _ _) _ _
  have hb := (h.side i i2).set 3 (.bool false)
  rw [sArr_unalone] at hb
  exact ⟨h.setSide i (A.win i) i2 _ _ _ _ _ k hb (.inl rfl) ((h.win i i2).kept k (win_ne_side h i i2)), RStep.win _ _ (k.mono (fun g e => by rw [e]; exact side_in i2)) (.inl (win_in i2)) i2⟩

theorem copied_n (s : RS) (i k : Nat) : (s.copied i k).n = s.n := by
  induction k with
  | zero => rfl
  | succ k ih => exact ih
theorem copied_room (s : RS) (i k : Nat) : (s.copied i k).room = s.room := by
  induction k with
  | zero => rfl
  | succ k ih => exact ih
theorem copied_same (s : RS) (i k : Nat) : (s.copied i k).mode = s.mode ∧ (s.copied i k).up = s.up := by
  induction k with
  | zero => exact ⟨rfl, rfl⟩
  | succ k ih => exact ih
theorem copied_past (s : RS) (i k : Nat) (j q : Nat) (h : j ≠ 1 - i ∨ k ≤ q) : (s.copied i k).past j q = s.past j q := by
  induction k with
  | zero => rfl
  | succ k ih =>
    show upd (s.copied i k).past (1 - i) (upd ((s.copied i k).past (1 - i)) k _) j q = _
    rw [upd2_other _ _ (by omega)]
    exact ih (by omega)
theorem copied_level (s : RS) (i k : Nat) (hi : i < 2) (q : Nat) : (s.copied i k).level i q = s.level i q := by
  induction k with
  | zero => rfl
  | succ k ih =>
    show ((s.copied i k).did (1 - i) k ((s.copied i k).level i k) true).level i q = _
    rw [level_did_other _ _ _ (by omega), ih]
theorem copied_ok {s : RS} (ok : s.Ok) (i : Nat) (hi : i < 2) (k : Nat) (hk : k ≤ s.n) : (s.copied i k).Ok := by
  induction k with
  | zero => exact ok
  | succ k ih =>
    have o := ih (by omega)
    have hb := level_bd o i k hi (by rw [copied_n]; omega)
    have hr := o.room1 k
    exact did_ok o (1 - i) k _ true hb.1 (by omega) (fun _ => hb.2)
theorem arrives_of {s t : RS} (h1 : t.mode = s.mode) (h2 : t.up = s.up) (i j : Nat) : t.arrives i j = s.arrives i j ∧ t.answered i j = s.answered i j := by
  unfold RS.answered RS.arrives
  rw [h1, h2]
  exact ⟨rfl, rfl⟩
theorem unaloned_up (s : RS) (i : Nat) : (s.unaloned i).up = s.up := by
  show upd s.up i (s.up i) = s.up
  funext j
  unfold upd
  split
  · rename_i h; rw [h]
  · rfl
theorem unaloned_ok {s : RS} (ok : s.Ok) (i : Nat) : (s.unaloned i).Ok :=
  ⟨ok.lease0, ok.lease1, ok.win0, ok.win1, ok.n0, ok.n1, ok.rate0, ok.rate1, ok.room0, ok.room1, ok.now0, ok.now1, ok.chs⟩

set_option maxHeartbeats 400000 in
theorem rjoin_noNode (A : RA) (i : Int) (hi : isNodeB i = false) (w : World) :
    Calls Tryz.prog 38 #[.pointer (some ⟨A.c, 0, none⟩), .int .i64 i] w fun e w' => e = .returned (.tuple #[.int .i64 0, .int .i64 4]) ∧ Same w w' := by
  go_enter Tryz.func38, Tryz.ntmps38
  go_wp2_with (go_at_call 58; refine (rnode_any _ _).mono ?_; rintro e w' ⟨rfl, rfl⟩)
  go_ret2
  exact ⟨rfl, Kept.refl _ _⟩

set_option maxHeartbeats 400000 in
theorem rjoin_down (A : RA) (s : RS) (i : Int) (h0 : 0 ≤ i) (h2 : i < 2) (hu : s.up i.toNat = false) (w : World) (h : RAt w A s) :
    Calls Tryz.prog 38 #[.pointer (some ⟨A.c, 0, none⟩), .int .i64 i] w fun e w' => e = .returned (.tuple #[.int .i64 0, .int .i64 5]) ∧ Same w w' := by
  have hC := h.c.cell
  have i2 : i.toNat < 2 := by omega
  have hS := (h.side i.toNat i2).cell
  have hp := h.sp i.toNat i2
  have hn : isNodeB i = true := by rcases lt2 h0 h2 with rfl | rfl <;> rfl
  go_enter Tryz.func38, Tryz.ntmps38
  go_wp2_with (go_at_call 58; refine (rnode_any _ _).mono ?_; rintro e w' ⟨rfl, rfl⟩)
  go_ret2
  exact ⟨rfl, Kept.refl _ _⟩

set_option maxRecDepth 100000 in
set_option maxHeartbeats 2000000 in
theorem rjoin_yes (A : RA) (s : RS) (i : Int) (h0 : 0 ≤ i) (h2 : i < 2) (hu : s.up i.toNat = true) (ok : s.Ok) (w : World) (h : RAt w A s) (hroom : ∀ j q, ((s.past j q).length + 1) * 24 ≤ 140737488355328) :
    Calls Tryz.prog 38 #[.pointer (some ⟨A.c, 0, none⟩), .int .i64 i] w fun e w' => e = .returned (.tuple #[.int .i64 (s.joined i.toNat).1, .int .i64 0]) ∧ ∃ A', RAt w' A' (s.joined i.toNat).2 ∧ RStep s.n A A' w w' := by
  have hC := h.c.cell
  have i2 : i.toNat < 2 := by omega
  have hS := (h.side i.toNat i2).cell
  have hSF := (h.side i.toNat i2).free
  have hp := h.sp i.toNat i2
  have hi := lt2 h0 h2
  have hn : isNodeB i = true := by rcases lt2 h0 h2 with rfl | rfl <;> rfl
  have ej : (1 - i).toNat = 1 - i.toNat := by omega
  have n4 := ok.n1
  have n4i : (s.n : Int) ≤ 4 := by omega
  cases hh : s.leased i.toNat
  · have e : s.joined i.toNat = (4, s) := by simp [RS.joined, hh]
    rw [e]
    clear e
    go_enter Tryz.func38, Tryz.ntmps38
    go_wp2_with (first | (go_at_call 58; refine (rnode_any _ _).mono ?_; rintro e w' ⟨rfl, rfl⟩) | (go_at_call 72; refine (rleased_any A s i h0 h2 _ h).mono ?_; rintro e w' ⟨rfl, q, rfl⟩))
    go_ret2
    exact ⟨rfl, A, h.drewN _, RStep.refl _ _ ((Kept.refl _ _).drewN _)⟩
  · have hun := fun q => (h.drewN q).toUnalone i.toNat i2
    have av := arrives_of (s := s) (t := s.unaloned i.toNat) rfl (unaloned_up s i.toNat)
    have HOK : Hid (∀ k, k ≤ s.n → ((s.unaloned i.toNat).copied i.toNat k).Ok) := fun k hk => copied_ok (unaloned_ok ok i.toNat) i.toNat i2 k hk
    have HRM : Hid (∀ j q, ((s.past j q).length + 1) * 24 ≤ 140737488355328) := hroom
    generalize hs1 : s.unaloned i.toNat = s1 at *
    have en : s1.n = s.n := by rw [← hs1]; rfl
    have HPS : Hid (s1.past = s.past) := by rw [← hs1]; exact rfl
    have hm1 : ∀ (q : Nat) A1 w1, RAt w1 A1 s1 → A1.c = A.c → Calls Tryz.prog 64 #[.pointer (some ⟨A.c, 0, none⟩), .int .i64 i, .int .i64 (1 - i)] w1 fun e' y => e' = .returned (.tuple #[.bool (s.arrives i.toNat (1 - i.toNat)), .bool (s.answered i.toNat (1 - i.toNat))]) ∧ y = w1 := by
      intro q A1 w1 h1 hc1
      have := rsent_any A1 s1 i (1 - i) hi (.inr rfl) w1 h1
      rw [ej, hc1, (av i.toNat (1 - i.toNat)).1, (av i.toNat (1 - i.toNat)).2] at this
      exact this
    have fin : s.joined i.toNat = if s.answered i.toNat (1 - i.toNat) then (s1.copied i.toNat s.n).joinEnd i.toNat else (0, if s.arrives i.toNat (1 - i.toNat) then s1.copied i.toNat s.n else s1) := by
      unfold RS.joined
      rw [if_pos hh, hs1]
    have FIN : Hid (s.joined i.toNat = if s.answered i.toNat (1 - i.toNat) then (s1.copied i.toNat s.n).joinEnd i.toNat else (0, if s.arrives i.toNat (1 - i.toNat) then s1.copied i.toNat s.n else s1)) := fin
    have HUN : Hid (∀ q, RAt ((w.drewN q).setCell ⟨A.side i.toNat, 3, none⟩ (.bool false)) (A.withWin i.toNat (A.win i.toNat)) s1 ∧ RStep s.n A (A.withWin i.toNat (A.win i.toNat)) (w.drewN q) ((w.drewN q).setCell ⟨A.side i.toNat, 3, none⟩ (.bool false))) := hun
    have HM1 : Hid (∀ (q : Nat) A1 w1, RAt w1 A1 s1 → A1.c = A.c → Calls Tryz.prog 64 #[.pointer (some ⟨A.c, 0, none⟩), .int .i64 i, .int .i64 (1 - i)] w1 fun e' y => e' = .returned (.tuple #[.bool (s.arrives i.toNat (1 - i.toNat)), .bool (s.answered i.toNat (1 - i.toNat))]) ∧ y = w1) := hm1
    clear hun av hroom hs1 hm1 fin
    go_enter Tryz.func38, Tryz.ntmps38
    go_wp2_with (first | (go_at_call 58; refine (rnode_any _ _).mono ?_; rintro e w' ⟨rfl, rfl⟩) | (go_at_call 72; refine (rleased_any A s i h0 h2 _ h).mono ?_; rintro e w' ⟨rfl, q, rfl⟩) | fail)
    obtain ⟨ha1, st1⟩ := HUN.out q
    have hst1 : RStep s.n A (A.withWin i.toNat (A.win i.toNat)) w' ((w'.drewN q).setCell ⟨A.side i.toNat, 3, none⟩ (.bool false)) := RStep.trans (RStep.refl _ _ ((Kept.refl _ _).drewN _)) st1
    refine (HM1.out 0 _ _ ha1 rfl).mono ?_
    rintro e w2 ⟨rfl, hw2⟩
    rw [← hw2] at ha1 hst1
    clear hw2 st1 HUN HM1 hC hS hSF hp h hu hh ok
    generalize hA1 : A.withWin i.toNat (A.win i.toNat) = A1 at *
    clear hA1
    cases har : s.arrives i.toNat (1 - i.toNat)
    · have han : s.answered i.toNat (1 - i.toNat) = false := by simp [RS.answered, har]
      go_wp2_with fail
      go_loopw [11] (fun x wr => x = .int .i64 0 ∧ wr = w2) (fun _ _ => 0)
      case atStart => exact ⟨rfl, rfl⟩
      case round =>
        obtain ⟨rfl, rfl⟩ := hrel
        go_wp2_with fail
        go_ret2
        rw [FIN.out, han, har]
        exact ⟨rfl, A1, ha1, hst1⟩
    · go_wp2_with fail
      go_loopw [11] (fun x wr => ∃ (k : Nat) (A2 : RA), k ≤ s.n ∧ x = .int .i64 k ∧ RAt wr A2 (s1.copied i.toNat k) ∧ RStep s.n A A2 w' wr) (fun x _ => s.n - (intOf x).toNat)
      case atStart => exact ⟨0, A1, by omega, rfl, ha1, hst1⟩
      case round =>
        clear ha1 hst1
        obtain ⟨k, A2, hk, rfl, ha2, st2⟩ := hrel
        have cn := copied_n s1 i.toNat k
        rw [en] at cn
        have hcc := st2.c
        have hc3 : wr.cell? ⟨A.c, 3, none⟩ = some (.slice (some ⟨A2.room, 0, none⟩) s.n A2.oc) := by
          rw [← hcc, ha2.c.cell, ← cn]; rfl
        by_cases hlt : k < s.n
        · have hki : (k : Int) < (s.n : Int) := by omega
          have okk := HOK.out k hk
          have HL : Hid (Calls Tryz.prog 73 #[.pointer (some ⟨A.c, 0, none⟩), .int .i64 i, .int .i64 (k : Int)] wr fun e w' => e = .returned (.int .i64 ((s1.copied i.toNat k).level i.toNat k)) ∧ w' = wr) := by
            have := rlevel_any A2 (s1.copied i.toNat k) i (k : Int) h0 h2 (by omega) (by rw [cn]; exact hki) wr ha2 okk
            rw [hcc] at this
            exact this
          have HD : Hid (∀ l, Calls Tryz.prog 75 #[.pointer (some ⟨A.c, 0, none⟩), .int .i64 (1 - i), .int .i64 (k : Int), .int .i64 l, .bool true] wr fun e w'' => e = .returned (.tuple #[]) ∧ ∃ A3, RAt w'' A3 ((s1.copied i.toNat k).did (1 - i.toNat) k l true) ∧ RStep s.n A2 A3 wr w'') := by
            intro l
            have := rdone_any A2 (s1.copied i.toNat k) (1 - i) (k : Int) l true (by omega) (by omega) (by omega) (by rw [cn]; exact hki) wr ha2 (by rw [ej, Int.toNat_natCast, copied_past _ _ _ _ _ (.inr (Nat.le_refl _)), HPS.out]; exact HRM.out _ _)
            rw [hcc, cn, ej] at this
            exact this
          clear okk
          go_wp2_with fail
          refine HL.out.mono ?_
          rintro e w4 ⟨rfl, hw4⟩
          subst hw4
          go_wp2_with fail
          refine (HD.out _).mono ?_
          rintro e w5 ⟨rfl, A3, ha3, st3⟩
          go_wp2_with fail
          exact ⟨⟨k + 1, A3, by omega, by go_num, ha3, st2.trans st3⟩, by simp [intOf]; omega⟩
        · obtain rfl : k = s.n := by omega
          cases han : s.answered i.toNat (1 - i.toNat)
          · go_wp2_with fail
            go_ret2
            rw [FIN.out, han, har]
            exact ⟨rfl, A2, ha2, st2⟩
          · rw [han, if_pos rfl] at FIN
            have hs2 := rsent_any A2 (s1.copied i.toNat s.n) i 2 hi (.inl rfl) wr ha2
            rw [hcc] at hs2
            have hC2 := ha2.c.cell
            have hF2 := ha2.c.free
            have ts := ha2.toUnsolo
            rw [hcc] at hC2 hF2 ts
            generalize s1.copied i.toNat s.n = s3 at *
            have TS : Hid (RAt (wr.setCell ⟨A.c, 8, none⟩ (.bool false)) A2 s3.unsoloed ∧ RStep s3.n A2 A2 wr (wr.setCell ⟨A.c, 8, none⟩ (.bool false))) := ts
            have HS2 : Hid (Calls Tryz.prog 64 #[.pointer (some ⟨A.c, 0, none⟩), .int .i64 i, .int .i64 2] wr fun e' y => e' = .returned (.tuple #[.bool (s3.arrives i.toNat 2), .bool (s3.answered i.toNat 2)]) ∧ y = wr) := hs2
            clear hs2 ts
            cases ha4 : s3.arrives i.toNat 2
            · have hw4 : s3.answered i.toNat 2 = false := by simp [RS.answered, ha4]
              go_wp2_with fail
              refine HS2.out.mono ?_
              rintro e w4 ⟨rfl, hw5⟩
              subst hw5
              go_wp2_with fail
              go_ret2
              rw [FIN.out]
              simp only [RS.joinEnd, ha4, hw4]
              exact ⟨rfl, A2, ha2, st2⟩
            · cases hw4 : s3.answered i.toNat 2
              all_goals
                go_wp2_with fail
                refine HS2.out.mono ?_
                rintro e w4 ⟨rfl, hw5⟩
                subst hw5
                go_wp2_with fail
                go_ret2
                rw [FIN.out]
                simp only [RS.joinEnd, ha4, hw4]
                exact ⟨rfl, A2, TS.out.1, st2.trans (RStep.at cn TS.out.2)⟩

end Go.Proofs.YtpfahgogjeignaaGreatDoor
