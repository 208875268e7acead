/-
  The document's Campaign.
-/
import Derived.Test.YtpfahgogjeignaaGreatDoorRefD
import Derived.Test.YtpfahgogjeignaaGreatDoorProC
set_option linter.unusedVariables false
set_option linter.unusedSimpArgs false
namespace Go.Proofs.YtpfahgogjeignaaGreatDoor
open Go.RowKit
attribute [local go_sem] rg0 rg1 rg2 rg3 rg4 rg5 rg6 rg7 rg8 rg9 rg10 sg0 sg1 sg2 sg3 sg4 sg5 mg0 mg1 mg2 mgk fArr_get

def RS.granted (s : RS) (i : Int) : RS :=
  if s.holder = i then { s with til := s.now + s.lease } else { s with epoch := wrap64 (s.epoch + 1), holder := i, solo := false, til := s.now + s.lease }
def RS.took (s : RS) (i : Nat) : RS := s.withSide i (s.up i) s.epoch s.til s.solo (if s.sep i = s.epoch then s.win i else fun _ => 0)
def RS.campaigned (s : RS) (i : Int) : Int × RS :=
  if s.arrives i.toNat 2 then
    if s.grants i then (if s.answered i.toNat 2 then (1, (s.granted i).took i.toNat) else (0, s.granted i))
    else (if s.answered i.toNat 2 then 2 else 0, s)
  else (0, s)

set_option maxHeartbeats 400000 in
theorem rcampaign_noNode (A : RA) (i : Int) (hi : isNodeB i = false) (w : World) :
    Calls Tryz.prog 34 #[.pointer (some ⟨A.c, 0, none⟩), .int .i64 i] w fun e' w' => e' = .returned (.tuple #[.int .i64 0, .int .i64 4]) ∧ Same w w' := by
  go_enter Tryz.func34, Tryz.ntmps34
  go_wp2_with (go_at_call 58; refine (rnode_any _ _).mono ?_; rintro e w' ⟨rfl, rfl⟩)
  go_ret2
  exact ⟨rfl, Kept.refl _ _⟩

set_option maxHeartbeats 400000 in
theorem rcampaign_down (A : RA) (s : RS) (i : Int) (h0 : 0 ≤ i) (h2 : i < 2) (hu : s.up i.toNat = false) (w : World) (h : RAt w A s) :
    Calls Tryz.prog 34 #[.pointer (some ⟨A.c, 0, none⟩), .int .i64 i] w fun e' w' => e' = .returned (.tuple #[.int .i64 0, .int .i64 5]) ∧ Same w w' := by
  have hC := h.c.cell
  have i2 : i.toNat < 2 := by omega
  have hS := (h.side i.toNat i2).cell
  have hp := h.sp i.toNat i2
  have hn : isNodeB i = true := by rcases lt2 h0 h2 with rfl | rfl <;> rfl
  go_enter Tryz.func34, Tryz.ntmps34
  go_wp2_with (go_at_call 58; refine (rnode_any _ _).mono ?_; rintro e w' ⟨rfl, rfl⟩)
  go_ret2
  exact ⟨rfl, Kept.refl _ _⟩

set_option maxHeartbeats 1000000 in
/-- No lease is granted. -/
theorem rcampaign_not (A : RA) (s : RS) (i : Int) (h0 : 0 ≤ i) (h2 : i < 2) (hu : s.up i.toNat = true) (hno : s.arrives i.toNat 2 = false ∨ s.grants i = false) (w : World) (h : RAt w A s) :
    Calls Tryz.prog 34 #[.pointer (some ⟨A.c, 0, none⟩), .int .i64 i] w fun e' w' => e' = .returned (.tuple #[.int .i64 (s.campaigned i).1, .int .i64 0]) ∧ Same w w' := by
  have hC := h.c.cell
  have i2 : i.toNat < 2 := by omega
  have hS := (h.side i.toNat i2).cell
  have hp := h.sp i.toNat i2
  have hi := lt2 h0 h2
  have hn : isNodeB i = true := by rcases lt2 h0 h2 with rfl | rfl <;> rfl
  cases ha : s.arrives i.toNat 2
  · have hw : s.answered i.toNat 2 = false := by simp [RS.answered, ha]
    have e : s.campaigned i = (0, s) := by simp [RS.campaigned, ha]
    rw [e]
    clear e hno
    go_enter Tryz.func34, Tryz.ntmps34
    go_wp2_with (first | (go_at_call 58; refine (rnode_any _ _).mono ?_; rintro e w' ⟨rfl, rfl⟩) | (go_at_call 64; refine (rsent_any A s i 2 hi (.inl rfl) _ h).mono ?_; rintro e w' ⟨rfl, rfl⟩; simp only [show (2 : Int).toNat = 2 from rfl]) | (go_at_call 65; refine (rgrants_any A s i _ h).mono ?_; rintro e w' ⟨rfl, n, rfl⟩))
    all_goals
      go_ret2
      exact ⟨rfl, (Kept.refl _ _).drewN _⟩
  · have hg : s.grants i = false := by rcases hno with hno | hno; · rw [ha] at hno; cases hno
                                       · exact hno
    have e : s.campaigned i = (if s.answered i.toNat 2 then 2 else 0, s) := by simp [RS.campaigned, ha, hg]
    rw [e]
    clear e hno
    cases hw : s.answered i.toNat 2
    all_goals
      go_enter Tryz.func34, Tryz.ntmps34
      go_wp2_with (first | (go_at_call 58; refine (rnode_any _ _).mono ?_; rintro e w' ⟨rfl, rfl⟩) | (go_at_call 64; refine (rsent_any A s i 2 hi (.inl rfl) _ h).mono ?_; rintro e w' ⟨rfl, rfl⟩; simp only [show (2 : Int).toNat = 2 from rfl]) | (go_at_call 65; refine (rgrants_any A s i _ h).mono ?_; rintro e w' ⟨rfl, n, rfl⟩))
      go_ret2
      exact ⟨rfl, (Kept.refl _ _).drewN _⟩

theorem campaigned_not {s : RS} {i : Int} (hno : s.arrives i.toNat 2 = false ∨ s.grants i = false) : (s.campaigned i).2 = s := by
  unfold RS.campaigned
  rcases hno with h | h <;> simp [h] <;> split <;> rfl

theorem sArr_took (A : RA) (s : RS) (i : Nat) (e : s.sep i = s.epoch) : (((sArr A s i).setIfInBounds 1 (.int .i64 s.epoch)).setIfInBounds 2 (.int .i64 s.til)).setIfInBounds 3 (.bool s.solo) = sArr (A.withWin i (A.win i)) (s.took i) i := by
  unfold sArr RS.took RS.withSide RA.withWin
  simp [upd_same]
theorem sArr_took' (A : RA) (s : RS) (i g : Nat) : ((((sArr A s i).setIfInBounds 4 (.slice (some ⟨g, 0, none⟩) s.n s.n)).setIfInBounds 1 (.int .i64 s.epoch)).setIfInBounds 2 (.int .i64 s.til)).setIfInBounds 3 (.bool s.solo) = sArr (A.withWin i g) (s.took i) i := by
  unfold sArr RS.took RS.withSide RA.withWin
  simp [upd_same]
theorem win_ne_side {w : World} {A : RA} {s : RS} (h : RAt w A s) (i : Nat) (i2 : i < 2) : ¬ A.win i = A.side i := by
  intro e
  have a1 := h.win i i2
  have a2 := h.side i i2
  unfold BAt at a1 a2
  rw [e, a2] at a1
  simp at a1
theorem took_same {W1 : World} {A : RA} {s : RS} (h : RAt W1 A s) (i q : Nat) (i2 : i < 2) (e : s.sep i = s.epoch) :
    RAt ((((W1.drewN q).setCell ⟨A.side i, 1, none⟩ (.int .i64 s.epoch)).setCell ⟨A.side i, 2, none⟩ (.int .i64 s.til)).setCell ⟨A.side i, 3, none⟩ (.bool s.solo)) (A.withWin i (A.win i)) (s.took i) ∧
    Kept (fun x => x = A.side i) W1 ((((W1.drewN q).setCell ⟨A.side i, 1, none⟩ (.int .i64 s.epoch)).setCell ⟨A.side i, 2, none⟩ (.int .i64 s.til)).setCell ⟨A.side i, 3, none⟩ (.bool s.solo)) := by
  have k : Kept (fun x => x = A.side i) W1 ((((W1.drewN q).setCell ⟨A.side i, 1, none⟩ (.int .i64 s.epoch)).setCell ⟨A.side i, 2, none⟩ (.int .i64 s.til)).setCell ⟨A.side i, 3, none⟩ (.bool s.solo)) :=
    Wrote.set (Wrote.set (Wrote.set ((Kept.refl _ _).drewN q) _ _) _ _) _ _
  have hb := ((((h.side i i2).drewN q).set 1 (.int .i64 s.epoch)).set 2 (.int .i64 s.til)).set 3 (.bool s.solo)
  rw [sArr_took A s i e] at hb
  have hw := (h.win i i2).kept k (win_ne_side h i i2)
  have e' : (if s.sep i = s.epoch then s.win i else fun _ => 0) = s.win i := if_pos e
  refine ⟨?_, k⟩
  refine h.setSide i (A.win i) i2 (s.up i) s.epoch s.til s.solo _ k hb (.inl rfl) ?_
  rw [e']
  exact hw
theorem took_diff {W1 : World} {A : RA} {s : RS} (h : RAt W1 A s) (i q g : Nat) (i2 : i < 2) (e : ¬ s.sep i = s.epoch) (hg : g = W1.heap.size) :
    RAt ((((((W1.drewN q).setCell ⟨A.side i, 4, none⟩ (.slice (some ⟨g, 0, none⟩) s.n s.n)).setCell ⟨A.side i, 1, none⟩ (.int .i64 s.epoch)).setCell ⟨A.side i, 2, none⟩ (.int .i64 s.til)).setCell ⟨A.side i, 3, none⟩ (.bool s.solo)).alloc (.cells (fArr s.n fun _ => .int .i64 0) 3)) (A.withWin i g) (s.took i) ∧
    Kept (fun x => x = A.side i) W1 ((((((W1.drewN q).setCell ⟨A.side i, 4, none⟩ (.slice (some ⟨g, 0, none⟩) s.n s.n)).setCell ⟨A.side i, 1, none⟩ (.int .i64 s.epoch)).setCell ⟨A.side i, 2, none⟩ (.int .i64 s.til)).setCell ⟨A.side i, 3, none⟩ (.bool s.solo)).alloc (.cells (fArr s.n fun _ => .int .i64 0) 3)) := by
  have k : Kept (fun x => x = A.side i) W1 ((((((W1.drewN q).setCell ⟨A.side i, 4, none⟩ (.slice (some ⟨g, 0, none⟩) s.n s.n)).setCell ⟨A.side i, 1, none⟩ (.int .i64 s.epoch)).setCell ⟨A.side i, 2, none⟩ (.int .i64 s.til)).setCell ⟨A.side i, 3, none⟩ (.bool s.solo)).alloc (.cells (fArr s.n fun _ => .int .i64 0) 3)) :=
    Kept.alloc (Wrote.set (Wrote.set (Wrote.set (Wrote.set ((Kept.refl _ _).drewN q) _ _) _ _) _ _) _ _) _
  have hb := ((((((h.side i i2).drewN q).set 4 (.slice (some ⟨g, 0, none⟩) s.n s.n)).set 1 (.int .i64 s.epoch)).set 2 (.int .i64 s.til)).set 3 (.bool s.solo)).alloc (.cells (fArr s.n fun _ => .int .i64 0) 3)
  rw [sArr_took' A s i g] at hb
  have e' : (if s.sep i = s.epoch then s.win i else fun _ => 0) = fun _ => 0 := if_neg e
  refine ⟨?_, k⟩
  refine h.setSide i g i2 (s.up i) s.epoch s.til s.solo _ k hb (.inr (by omega)) ?_
  rw [e']
  exact BAt.made' _ _ (by rw [hg]; simp [World.setCell]) _ _

set_option maxHeartbeats 1000000 in
theorem rcampaign_yes (A : RA) (s : RS) (i : Int) (h0 : 0 ≤ i) (h2 : i < 2) (hu : s.up i.toNat = true) (ha : s.arrives i.toNat 2 = true) (hg : s.grants i = true) (ok : s.Ok) (w : World) (h : RAt w A s) :
    Calls Tryz.prog 34 #[.pointer (some ⟨A.c, 0, none⟩), .int .i64 i] w fun e' w' => e' = .returned (.tuple #[.int .i64 (s.campaigned i).1, .int .i64 0]) ∧ ∃ A', RAt w' A' (s.campaigned i).2 ∧ RStep s.n A A' w w' := by
  have hC := h.c.cell
  have hCf := h.c.free
  have i2 : i.toNat < 2 := by omega
  have hS := (h.side i.toNat i2).cell
  have hF := (h.side i.toNat i2).free
  have hSl := (h.side i.toNat i2).lt
  have hCl := h.c.lt
  have hp := h.sp i.toNat i2
  have hi := lt2 h0 h2
  have hn : isNodeB i = true := by rcases lt2 h0 h2 with rfl | rfl <;> rfl
  have hmk := make_ints s.n ok.n1
  have n0 := ok.now0
  have n1 := ok.now1
  have l0 := ok.lease0
  have l1 := ok.lease1
  have hcs : ¬ A.c = A.side i.toNat := by
    intro e
    have a1 := h.c
    have a2 := h.side i.toNat i2
    unfold BAt at a1 a2
    rw [e, a2] at a1
    simp at a1
  have hsc : ¬ A.side i.toNat = A.c := fun e => hcs e.symm
  by_cases eh : s.holder = i
  · have eh1 : (s.holder != i) = false := by simp [eh]
    have eg : s.granted i = { s with til := s.now + s.lease } := if_pos eh
    have EG : Hid (s.granted i = { s with now := s.now, holder := s.holder, epoch := s.epoch, til := s.now + s.lease, solo := s.solo }) := eg
    clear eg eh
    have mk1 : ∀ n, RAt (((w.drewN n).setCell ⟨A.c, 7, none⟩ (.int .i64 (s.now + s.lease)))) A { s with now := s.now, holder := s.holder, epoch := s.epoch, til := s.now + s.lease, solo := s.solo } ∧ Kept (fun g => g = A.c) (w.drewN n) (((w.drewN n).setCell ⟨A.c, 7, none⟩ (.int .i64 (s.now + s.lease)))) := fun n => ⟨(h.drewN n).setC s.now s.holder s.epoch (s.now + s.lease) s.solo (Wrote.set (Kept.refl _ _) _ _) ((((h.drewN n).c).set 7 (.int .i64 (s.now + s.lease)))), Wrote.set (Kept.refl _ _) _ _⟩
    have MK : Hid (∀ n, RAt (((w.drewN n).setCell ⟨A.c, 7, none⟩ (.int .i64 (s.now + s.lease)))) A { s with now := s.now, holder := s.holder, epoch := s.epoch, til := s.now + s.lease, solo := s.solo } ∧ Kept (fun g => g = A.c) (w.drewN n) (((w.drewN n).setCell ⟨A.c, 7, none⟩ (.int .i64 (s.now + s.lease))))) := mk1
    clear mk1
    cases hw : s.answered i.toNat 2
    · have ec : s.campaigned i = (0, s.granted i) := by simp [RS.campaigned, ha, hg, hw]
      have EC : Hid (s.campaigned i = (0, s.granted i)) := ec
      clear ec
      go_enter Tryz.func34, Tryz.ntmps34
      go_wp2_with (first | (go_at_call 58; refine (rnode_any _ _).mono ?_; rintro e w' ⟨rfl, rfl⟩) | (go_at_call 64; refine (rsent_any A s i 2 hi (.inl rfl) _ h).mono ?_; rintro e w' ⟨rfl, rfl⟩; simp only [show (2 : Int).toNat = 2 from rfl]) | (go_at_call 65; refine (rgrants_any A s i _ h).mono ?_; rintro e w' ⟨rfl, n, rfl⟩))
      go_region
      go_wp2
      go_ret2
      obtain ⟨r1, k1⟩ := MK.out (n + 1)
      rw [EC.out, EG.out]
      exact ⟨rfl, A, r1, rfl, rfl, (((Kept.refl _ _).drewN _).trans (k1.mono (fun g e => by rw [e]; exact in_all (by simp [RA.all])))), fun _ h => .inl h⟩
    · have ec : s.campaigned i = (1, (s.granted i).took i.toNat) := by simp [RS.campaigned, ha, hg, hw]
      have EC : Hid (s.campaigned i = (1, (s.granted i).took i.toNat)) := ec
      clear ec
      by_cases ee : s.sep i.toNat = s.epoch
      · have ee1 : (s.sep i.toNat != s.epoch) = false := by simp [ee]
        have EE : Hid (s.sep i.toNat = s.epoch) := ee
        clear ee
        go_enter Tryz.func34, Tryz.ntmps34
        go_wp2_with (first | (go_at_call 58; refine (rnode_any _ _).mono ?_; rintro e w' ⟨rfl, rfl⟩) | (go_at_call 64; refine (rsent_any A s i 2 hi (.inl rfl) _ h).mono ?_; rintro e w' ⟨rfl, rfl⟩; simp only [show (2 : Int).toNat = 2 from rfl]) | (go_at_call 65; refine (rgrants_any A s i _ h).mono ?_; rintro e w' ⟨rfl, n, rfl⟩))
        go_region
        go_wp2
        go_quiet (fail)
        go_wp2
        go_ret2
        obtain ⟨r1, k1⟩ := MK.out (n + 1)
        obtain ⟨r2, k2⟩ := took_same r1 i.toNat nq i2 EE.out
        rw [EC.out, EG.out]
        exact ⟨rfl, _, r2, RStep.win _ _ ((((Kept.refl _ _).drewN _).trans (k1.mono (fun g e => by rw [e]; exact in_all (by simp [RA.all])))).trans (k2.mono (fun g e => by rw [e]; exact side_in i2))) (.inl (win_in i2)) i2⟩
      · have ee1 : (s.sep i.toNat != s.epoch) = true := by simp [ee]
        have EE : Hid (¬ s.sep i.toNat = s.epoch) := ee
        clear ee
        go_enter Tryz.func34, Tryz.ntmps34
        go_wp2_with (first | (go_at_call 58; refine (rnode_any _ _).mono ?_; rintro e w' ⟨rfl, rfl⟩) | (go_at_call 64; refine (rsent_any A s i 2 hi (.inl rfl) _ h).mono ?_; rintro e w' ⟨rfl, rfl⟩; simp only [show (2 : Int).toNat = 2 from rfl]) | (go_at_call 65; refine (rgrants_any A s i _ h).mono ?_; rintro e w' ⟨rfl, n, rfl⟩))
        go_region
        go_wp2
        go_quiet (fail)
        go_wp2
        go_ret2
        obtain ⟨r1, k1⟩ := MK.out (n + 1)
        obtain ⟨r2, k2⟩ := took_diff r1 i.toNat nq w'.heap.size i2 EE.out (by simp [World.setCell])
        rw [EC.out, EG.out]
        exact ⟨rfl, _, r2, RStep.win _ _ ((((Kept.refl _ _).drewN _).trans (k1.mono (fun g e => by rw [e]; exact in_all (by simp [RA.all])))).trans (k2.mono (fun g e => by rw [e]; exact side_in i2))) (.inr (Nat.le_refl _)) i2⟩
  · have eh1 : (s.holder != i) = true := by simp [eh]
    have eg : s.granted i = { s with epoch := wrap64 (s.epoch + 1), holder := i, solo := false, til := s.now + s.lease } := if_neg eh
    have EG : Hid (s.granted i = { s with now := s.now, holder := i, epoch := wrap64 (s.epoch + 1), til := s.now + s.lease, solo := false }) := eg
    clear eg eh
    have mk1 : ∀ n, RAt (((((w.drewN n).setCell ⟨A.c, 6, none⟩ (.int .i64 (wrap64 (s.epoch + 1)))).setCell ⟨A.c, 5, none⟩ (.int .i64 i)).setCell ⟨A.c, 8, none⟩ (.bool false)).setCell ⟨A.c, 7, none⟩ (.int .i64 (s.now + s.lease))) A { s with now := s.now, holder := i, epoch := wrap64 (s.epoch + 1), til := s.now + s.lease, solo := false } ∧ Kept (fun g => g = A.c) (w.drewN n) (((((w.drewN n).setCell ⟨A.c, 6, none⟩ (.int .i64 (wrap64 (s.epoch + 1)))).setCell ⟨A.c, 5, none⟩ (.int .i64 i)).setCell ⟨A.c, 8, none⟩ (.bool false)).setCell ⟨A.c, 7, none⟩ (.int .i64 (s.now + s.lease))) := fun n => ⟨(h.drewN n).setC s.now i (wrap64 (s.epoch + 1)) (s.now + s.lease) false (Wrote.set (Wrote.set (Wrote.set (Wrote.set (Kept.refl _ _) _ _) _ _) _ _) _ _) (((((h.drewN n).c).set 6 (.int .i64 (wrap64 (s.epoch + 1)))).set 5 (.int .i64 i)).set 8 (.bool false) |>.set 7 (.int .i64 (s.now + s.lease))), Wrote.set (Wrote.set (Wrote.set (Wrote.set (Kept.refl _ _) _ _) _ _) _ _) _ _⟩
    have MK : Hid (∀ n, RAt (((((w.drewN n).setCell ⟨A.c, 6, none⟩ (.int .i64 (wrap64 (s.epoch + 1)))).setCell ⟨A.c, 5, none⟩ (.int .i64 i)).setCell ⟨A.c, 8, none⟩ (.bool false)).setCell ⟨A.c, 7, none⟩ (.int .i64 (s.now + s.lease))) A { s with now := s.now, holder := i, epoch := wrap64 (s.epoch + 1), til := s.now + s.lease, solo := false } ∧ Kept (fun g => g = A.c) (w.drewN n) (((((w.drewN n).setCell ⟨A.c, 6, none⟩ (.int .i64 (wrap64 (s.epoch + 1)))).setCell ⟨A.c, 5, none⟩ (.int .i64 i)).setCell ⟨A.c, 8, none⟩ (.bool false)).setCell ⟨A.c, 7, none⟩ (.int .i64 (s.now + s.lease)))) := mk1
    clear mk1
    cases hw : s.answered i.toNat 2
    · have ec : s.campaigned i = (0, s.granted i) := by simp [RS.campaigned, ha, hg, hw]
      have EC : Hid (s.campaigned i = (0, s.granted i)) := ec
      clear ec
      go_enter Tryz.func34, Tryz.ntmps34
      go_wp2_with (first | (go_at_call 58; refine (rnode_any _ _).mono ?_; rintro e w' ⟨rfl, rfl⟩) | (go_at_call 64; refine (rsent_any A s i 2 hi (.inl rfl) _ h).mono ?_; rintro e w' ⟨rfl, rfl⟩; simp only [show (2 : Int).toNat = 2 from rfl]) | (go_at_call 65; refine (rgrants_any A s i _ h).mono ?_; rintro e w' ⟨rfl, n, rfl⟩))
      go_region
      go_wp2
      go_ret2
      obtain ⟨r1, k1⟩ := MK.out (n + 1)
      rw [EC.out, EG.out]
      exact ⟨rfl, A, r1, rfl, rfl, (((Kept.refl _ _).drewN _).trans (k1.mono (fun g e => by rw [e]; exact in_all (by simp [RA.all])))), fun _ h => .inl h⟩
    · have ec : s.campaigned i = (1, (s.granted i).took i.toNat) := by simp [RS.campaigned, ha, hg, hw]
      have EC : Hid (s.campaigned i = (1, (s.granted i).took i.toNat)) := ec
      clear ec
      by_cases ee : s.sep i.toNat = wrap64 (s.epoch + 1)
      · have ee1 : (s.sep i.toNat != wrap64 (s.epoch + 1)) = false := by simp [ee]
        have EE : Hid (s.sep i.toNat = wrap64 (s.epoch + 1)) := ee
        clear ee
        go_enter Tryz.func34, Tryz.ntmps34
        go_wp2_with (first | (go_at_call 58; refine (rnode_any _ _).mono ?_; rintro e w' ⟨rfl, rfl⟩) | (go_at_call 64; refine (rsent_any A s i 2 hi (.inl rfl) _ h).mono ?_; rintro e w' ⟨rfl, rfl⟩; simp only [show (2 : Int).toNat = 2 from rfl]) | (go_at_call 65; refine (rgrants_any A s i _ h).mono ?_; rintro e w' ⟨rfl, n, rfl⟩))
        go_region
        go_wp2
        go_quiet (fail)
        go_wp2
        go_ret2
        obtain ⟨r1, k1⟩ := MK.out n
        obtain ⟨r2, k2⟩ := took_same r1 i.toNat (1 + nq) i2 EE.out
        rw [EC.out, EG.out]
        exact ⟨rfl, _, r2, RStep.win _ _ ((((Kept.refl _ _).drewN _).trans (k1.mono (fun g e => by rw [e]; exact in_all (by simp [RA.all])))).trans (k2.mono (fun g e => by rw [e]; exact side_in i2))) (.inl (win_in i2)) i2⟩
      · have ee1 : (s.sep i.toNat != wrap64 (s.epoch + 1)) = true := by simp [ee]
        have EE : Hid (¬ s.sep i.toNat = wrap64 (s.epoch + 1)) := ee
        clear ee
        go_enter Tryz.func34, Tryz.ntmps34
        go_wp2_with (first | (go_at_call 58; refine (rnode_any _ _).mono ?_; rintro e w' ⟨rfl, rfl⟩) | (go_at_call 64; refine (rsent_any A s i 2 hi (.inl rfl) _ h).mono ?_; rintro e w' ⟨rfl, rfl⟩; simp only [show (2 : Int).toNat = 2 from rfl]) | (go_at_call 65; refine (rgrants_any A s i _ h).mono ?_; rintro e w' ⟨rfl, n, rfl⟩))
        go_region
        go_wp2
        go_quiet (fail)
        go_wp2
        go_ret2
        obtain ⟨r1, k1⟩ := MK.out n
        obtain ⟨r2, k2⟩ := took_diff r1 i.toNat (1 + nq) w'.heap.size i2 EE.out (by simp [World.setCell])
        rw [EC.out, EG.out]
        exact ⟨rfl, _, r2, RStep.win _ _ ((((Kept.refl _ _).drewN _).trans (k1.mono (fun g e => by rw [e]; exact in_all (by simp [RA.all])))).trans (k2.mono (fun g e => by rw [e]; exact side_in i2))) (.inr (Nat.le_refl _)) i2⟩

end Go.Proofs.YtpfahgogjeignaaGreatDoor
