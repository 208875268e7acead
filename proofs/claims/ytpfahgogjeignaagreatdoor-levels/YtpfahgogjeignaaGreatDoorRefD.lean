/-
  The document's Pass, Link, Start, Crash.
-/
import Derived.Test.YtpfahgogjeignaaGreatDoorRefC
import Derived.Test.YtpfahgogjeignaaGreatDoorProB
set_option linter.unusedVariables false
set_option linter.unusedSimpArgs false
namespace Go.Proofs.YtpfahgogjeignaaGreatDoor
open Go.RowKit
attribute [local go_sem] rg0 rg1 rg2 rg3 rg4 rg5 rg6 rg7 rg8 rg9 rg10 sg0 sg1 sg2 sg3 sg4 sg5 mg0 mg1 mg2 mgk fArr_get

def RS.passed (s : RS) (t : Int) : RS := { s with now := s.now + t }
def RS.linked (s : RS) (a c m : Int) : RS := { s with mode := upd s.mode (a + c - 1).toNat m }
def RS.started (s : RS) (i : Nat) : RS := s.withSide i true (s.sep i) (s.stil i) (s.alone i) (s.win i)
def RS.crashed (s : RS) (i : Nat) : RS := s.withSide i false 0 0 false (fun _ => 0)

set_option maxHeartbeats 400000 in
theorem rpass_no (A : RA) (s : RS) (t : Int) (ht : t < 0 ∨ 1000000000000 - s.now < t) (ok : s.Ok) (w : World) (h : RAt w A s) :
    Calls Tryz.prog 26 #[.pointer (some ⟨A.c, 0, none⟩), .int .i64 t] w fun e' w' => e' = .returned (.int .i64 8) ∧ Same w w' := by
  have hC := h.c.cell
  have n0 := ok.now0
  have n1 := ok.now1
  by_cases h0 : t < 0
  · clear ht
    go_enter Tryz.func26, Tryz.ntmps26
    go_wp2
    go_ret
    exact ⟨rfl, Kept.refl _ _⟩
  · have h1 : 1000000000000 - s.now < t := by omega
    clear ht
    go_enter Tryz.func26, Tryz.ntmps26
    go_wp2
    go_ret
    exact ⟨rfl, Kept.refl _ _⟩

set_option maxHeartbeats 400000 in
theorem rpass_yes (A : RA) (s : RS) (t : Int) (t0 : 0 ≤ t) (t1 : t ≤ 1000000000000 - s.now) (ok : s.Ok) (w : World) (h : RAt w A s) :
    Calls Tryz.prog 26 #[.pointer (some ⟨A.c, 0, none⟩), .int .i64 t] w fun e' w' => e' = .returned (.int .i64 0) ∧ RAt w' A (s.passed t) ∧ RStep s.n A A w w' := by
  have hC := h.c.cell
  have hF := h.c.free
  have n0 := ok.now0
  have n1 := ok.now1
  go_enter Tryz.func26, Tryz.ntmps26
  go_wp2
  go_ret
  have k : Kept (fun g => g = A.c) w (w.setCell ⟨A.c, 4, none⟩ (.int .i64 (s.now + t))) := Wrote.set (Kept.refl _ _) _ _
  exact ⟨rfl, h.setC (s.now + t) s.holder s.epoch s.til s.solo k (h.c.set _ _), rfl, rfl, k.mono (fun g e => in_all (by rw [e]; simp [RA.all])), fun _ h => .inl h⟩

theorem linkOk_bd {a c m : Int} (h : linkOk a c m = true) : 0 ≤ a ∧ a ≤ 2 ∧ 0 ≤ c ∧ c ≤ 2 ∧ a ≠ c ∧ 0 ≤ m ∧ m ≤ 2 := by
  simp [linkOk, isEndB, isNodeB, isModeB] at h
  omega
theorem linkOk_no {a c m : Int} (h : linkOk a c m = false) : a < 0 ∨ 2 < a ∨ c < 0 ∨ 2 < c ∨ a = c ∨ m < 0 ∨ 2 < m := by
  simp [linkOk, isEndB, isNodeB, isModeB] at h
  omega

set_option maxHeartbeats 1000000 in
theorem rlink_no (A : RA) (a c m : Int) (hi : linkOk a c m = false) (w : World) :
    Calls Tryz.prog 28 #[.pointer (some ⟨A.c, 0, none⟩), .int .i64 a, .int .i64 c, .int .i64 m] w fun e' w' => e' = .returned (.int .i64 7) ∧ Same w w' := by
  have hn := linkOk_no hi
  clear hi
  by_cases e : a = c
  · subst e
    go_enter Tryz.func28, Tryz.ntmps28
    go_wp2
    all_goals
      go_ret
      exact ⟨rfl, Kept.refl _ _⟩
  · have e1 : (a == c) = false := by simp [e]
    go_enter Tryz.func28, Tryz.ntmps28
    go_wp2
    all_goals
      go_ret
      exact ⟨rfl, Kept.refl _ _⟩

set_option maxHeartbeats 1000000 in
theorem rlink_yes (A : RA) (s : RS) (a c m : Int) (hi : linkOk a c m = true) (w : World) (h : RAt w A s) :
    Calls Tryz.prog 28 #[.pointer (some ⟨A.c, 0, none⟩), .int .i64 a, .int .i64 c, .int .i64 m] w fun e' w' => e' = .returned (.int .i64 0) ∧ RAt w' A (s.linked a c m) ∧ RStep s.n A A w w' := by
  obtain ⟨a0, a2, c0, c2, ac, m0, m2⟩ := linkOk_bd hi
  have hC := h.c.cell
  have hM := h.modes.cell
  have hF := h.modes.free
  rcases (by omega : a = 0 ∨ a = 1 ∨ a = 2) with rfl | rfl | rfl <;> rcases (by omega : c = 0 ∨ c = 1 ∨ c = 2) with rfl | rfl | rfl <;> first | exact absurd rfl ac | skip
  all_goals
    clear a0 a2 c0 c2 ac hi
    go_enter Tryz.func28, Tryz.ntmps28
    go_wp2
    go_ret
    refine ⟨rfl, h.setM _ (Wrote.set (Kept.refl _ _) _ _) (h.modes.set _ _), rfl, rfl, Kept.mono (Wrote.set (b := A.modes) (Kept.refl _ _) _ _) (fun g e => in_all (by rw [e]; simp [RA.all])), fun _ h => .inl h⟩

set_option maxHeartbeats 400000 in
theorem rstart_noNode (A : RA) (i : Int) (hi : isNodeB i = false) (w : World) :
    Calls Tryz.prog 32 #[.pointer (some ⟨A.c, 0, none⟩), .int .i64 i] w fun e' w' => e' = .returned (.int .i64 4) ∧ Same w w' := by
  go_enter Tryz.func32, Tryz.ntmps32
  go_wp2_with (go_at_call 58; refine (rnode_any _ _).mono ?_; rintro e w' ⟨rfl, rfl⟩)
  go_ret
  exact ⟨rfl, Kept.refl _ _⟩

set_option maxHeartbeats 400000 in
theorem rstart_up (A : RA) (s : RS) (i : Int) (h0 : 0 ≤ i) (h2 : i < 2) (hu : s.up i.toNat = true) (w : World) (h : RAt w A s) :
    Calls Tryz.prog 32 #[.pointer (some ⟨A.c, 0, none⟩), .int .i64 i] w fun e' w' => e' = .returned (.int .i64 6) ∧ Same w w' := by
  have hC := h.c.cell
  have i2 : i.toNat < 2 := by omega
  have hS := (h.side i.toNat i2).cell
  have hp := h.sp i.toNat i2
  have hn : isNodeB i = true := by rcases lt2 h0 h2 with rfl | rfl <;> rfl
  go_enter Tryz.func32, Tryz.ntmps32
  go_wp2_with (go_at_call 58; refine (rnode_any _ _).mono ?_; rintro e w' ⟨rfl, rfl⟩)
  go_ret
  exact ⟨rfl, Kept.refl _ _⟩

theorem side_in {A : RA} {i n : Nat} (hi : i < 2) : A.in n (A.side i) := in_all (by rcases lt2n hi with rfl | rfl <;> simp [RA.all])
theorem win_in {A : RA} {i n : Nat} (hi : i < 2) : A.in n (A.win i) := in_all (by rcases lt2n hi with rfl | rfl <;> simp [RA.all])
theorem sArr_up (A : RA) (s : RS) (i : Nat) : (sArr A s i).setIfInBounds 0 (.bool true) = sArr (A.withWin i (A.win i)) (s.started i) i := by
  unfold sArr RS.started RS.withSide RA.withWin
  simp [upd_same]
theorem sArr_crash (A : RA) (s : RS) (i g : Nat) : (((((sArr A s i).setIfInBounds 0 (.bool false)).setIfInBounds 1 (.int .i64 0)).setIfInBounds 2 (.int .i64 0)).setIfInBounds 3 (.bool false)).setIfInBounds 4 (.slice (some ⟨g, 0, none⟩) s.n s.n) = sArr (A.withWin i g) (s.crashed i) i := by
  unfold sArr RS.crashed RS.withSide RA.withWin
  simp [upd_same]

set_option maxHeartbeats 400000 in
theorem rstart_yes (A : RA) (s : RS) (i : Int) (h0 : 0 ≤ i) (h2 : i < 2) (hu : s.up i.toNat = false) (w : World) (h : RAt w A s) :
    Calls Tryz.prog 32 #[.pointer (some ⟨A.c, 0, none⟩), .int .i64 i] w fun e' w' => e' = .returned (.int .i64 0) ∧ ∃ A', RAt w' A' (s.started i.toNat) ∧ RStep s.n A A' w w' := by
  have hC := h.c.cell
  have i2 : i.toNat < 2 := by omega
  have hS := (h.side i.toNat i2).cell
  have hF := (h.side i.toNat i2).free
  have hp := h.sp i.toNat i2
  have hn : isNodeB i = true := by rcases lt2 h0 h2 with rfl | rfl <;> rfl
  go_enter Tryz.func32, Tryz.ntmps32
  go_wp2_with (go_at_call 58; refine (rnode_any _ _).mono ?_; rintro e w' ⟨rfl, rfl⟩)
  go_ret
  have k : Kept (fun x => x = A.side i.toNat) w' (w'.setCell ⟨A.side i.toNat, 0, none⟩ (.bool true)) := Wrote.set (Kept.refl _ _) _ _
  have hb := (h.side i.toNat i2).set 0 (.bool true)
  rw [sArr_up] at hb
  have hne : ¬ A.win i.toNat = A.side i.toNat := by
    intro e
    have a1 := h.win i.toNat i2
    have a2 := h.side i.toNat i2
    unfold BAt at a1 a2
    rw [e, a2] at a1
    simp at a1
  exact ⟨rfl, _, h.setSide i.toNat (A.win i.toNat) i2 true _ _ _ _ k hb (.inl rfl) ((h.win i.toNat i2).kept k hne), RStep.win _ _ (k.mono (fun g e => by rw [e]; exact side_in i2)) (.inl (win_in i2)) i2⟩

set_option maxHeartbeats 400000 in
theorem rcrash_noNode (A : RA) (i : Int) (hi : isNodeB i = false) (w : World) :
    Calls Tryz.prog 30 #[.pointer (some ⟨A.c, 0, none⟩), .int .i64 i] w fun e' w' => e' = .returned (.int .i64 4) ∧ Same w w' := by
  go_enter Tryz.func30, Tryz.ntmps30
  go_wp2_with (go_at_call 58; refine (rnode_any _ _).mono ?_; rintro e w' ⟨rfl, rfl⟩)
  go_ret
  exact ⟨rfl, Kept.refl _ _⟩

set_option maxHeartbeats 400000 in
theorem rcrash_down (A : RA) (s : RS) (i : Int) (h0 : 0 ≤ i) (h2 : i < 2) (hu : s.up i.toNat = false) (w : World) (h : RAt w A s) :
    Calls Tryz.prog 30 #[.pointer (some ⟨A.c, 0, none⟩), .int .i64 i] w fun e' w' => e' = .returned (.int .i64 5) ∧ Same w w' := by
  have hC := h.c.cell
  have i2 : i.toNat < 2 := by omega
  have hS := (h.side i.toNat i2).cell
  have hp := h.sp i.toNat i2
  have hn : isNodeB i = true := by rcases lt2 h0 h2 with rfl | rfl <;> rfl
  go_enter Tryz.func30, Tryz.ntmps30
  go_wp2_with (go_at_call 58; refine (rnode_any _ _).mono ?_; rintro e w' ⟨rfl, rfl⟩)
  go_ret
  exact ⟨rfl, Kept.refl _ _⟩

set_option maxHeartbeats 400000 in
theorem rcrash_yes (A : RA) (s : RS) (i : Int) (h0 : 0 ≤ i) (h2 : i < 2) (hu : s.up i.toNat = true) (ok : s.Ok) (w : World) (h : RAt w A s) :
    Calls Tryz.prog 30 #[.pointer (some ⟨A.c, 0, none⟩), .int .i64 i] w fun e' w' => e' = .returned (.int .i64 0) ∧ ∃ A', RAt w' A' (s.crashed i.toNat) ∧ RStep s.n A A' w w' := by
  have hC := h.c.cell
  have i2 : i.toNat < 2 := by omega
  have hS := (h.side i.toNat i2).cell
  have hF := (h.side i.toNat i2).free
  have hSl := (h.side i.toNat i2).lt
  have hp := h.sp i.toNat i2
  have hn : isNodeB i = true := by rcases lt2 h0 h2 with rfl | rfl <;> rfl
  have hmk := make_ints s.n ok.n1
  have hcs : ¬ A.c = A.side i.toNat := by
    intro e
    have a1 := h.c
    have a2 := h.side i.toNat i2
    unfold BAt at a1 a2
    rw [e, a2] at a1
    simp at a1
  go_enter Tryz.func30, Tryz.ntmps30
  go_wp2_with (go_at_call 58; refine (rnode_any _ _).mono ?_; rintro e w' ⟨rfl, rfl⟩)
  go_ret
  have k : Kept (fun x => x = A.side i.toNat) w' ((((((w'.setCell ⟨A.side i.toNat, 0, none⟩ (.bool false)).setCell ⟨A.side i.toNat, 1, none⟩ (.int .i64 0)).setCell ⟨A.side i.toNat, 2, none⟩ (.int .i64 0)).setCell ⟨A.side i.toNat, 3, none⟩ (.bool false)).setCell ⟨A.side i.toNat, 4, none⟩ (.slice (some ⟨w'.heap.size, 0, none⟩) s.n s.n)).alloc (.cells (fArr s.n fun _ => .int .i64 0) 3)) :=
    Kept.alloc (Wrote.set (Wrote.set (Wrote.set (Wrote.set (Wrote.set (Kept.refl _ _) _ _) _ _) _ _) _ _) _ _) _
  have hb := ((((((h.side i.toNat i2).set 0 (.bool false)).set 1 (.int .i64 0)).set 2 (.int .i64 0)).set 3 (.bool false)).set 4 (.slice (some ⟨w'.heap.size, 0, none⟩) s.n s.n)).alloc (.cells (fArr s.n fun _ => .int .i64 0) 3)
  rw [sArr_crash] at hb
  exact ⟨rfl, _, h.setSide i.toNat w'.heap.size i2 false 0 0 false (fun _ => 0) k hb (.inr (Nat.le_refl _)) (BAt.made' _ _ (by simp [World.setCell]) _ _), RStep.win _ _ (k.mono (fun g e => by rw [e]; exact side_in i2)) (.inr (Nat.le_refl _)) i2⟩

end Go.Proofs.YtpfahgogjeignaaGreatDoor
