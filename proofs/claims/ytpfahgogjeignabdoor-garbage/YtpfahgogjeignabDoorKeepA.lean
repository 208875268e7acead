/-
  The keeper's small functions: copied, fits; New as one.
-/
import Derived.Test.YtpfahgogjeignabDoorHand
import Derived.Test.YtpfahgogjeignabDoorProH
set_option linter.unusedVariables false
set_option linter.unusedSimpArgs false
namespace Go.Proofs.YtpfahgogjeignabDoor
open Go.RowKit
attribute [local go_sem] fArr_get

/-- New, where it gives none. -/
theorem new_no (le wi : Int) (a : Option Addr) (n cap : Nat) (R B : Nat → Int) (w : World) (hT : Ten w a n R B) (no : ¬ Good le wi n R B) :
    Calls Tryd.prog 36 #[.int .i64 le, .int .i64 wi, .slice a n cap] w fun e w' => ∃ c : Int, c ≠ 0 ∧ e = .returned (.tuple #[.pointer none, .int .i64 c]) ∧ Same w w' := by
  by_cases hl : le < 1 ∨ 1000 < le
  · exact (new_lease le wi a n cap w hl).mono fun _ _ ⟨h1, h2⟩ => ⟨1, by decide, h1, h2⟩
  · have l0 : 1 ≤ le := by omega
    have l1 : le ≤ 1000 := by omega
    rcases Classical.em (TensOk n R B) with ht | ht
    · have hw : ¬ WinOk wi n B := fun hw => no ⟨l0, l1, ht, hw⟩
      exact (new_window le wi a n cap R B w hT l0 l1 ht hw).mono fun _ _ ⟨h1, h2⟩ => ⟨3, by decide, h1, h2⟩
    · exact (new_tenants le wi a n cap R B w hT l0 l1 ht).mono fun _ _ ⟨h1, h2⟩ => ⟨2, by decide, h1, h2⟩

set_option maxRecDepth 100000 in
set_option maxHeartbeats 1000000 in
theorem copied_any (a : Option Addr) (n cap : Nat) (R B : Nat → Int) (w : World) (hT : Ten w a n R B) (hn : n * 16 ≤ 140737488355328) :
    Calls Tryd.prog 37 #[.slice a n cap] w fun e w' => e = .returned (.slice (some ⟨w.heap.size, 0, none⟩) n n) ∧ Ten w' (some ⟨w.heap.size, 0, none⟩) n R B ∧ Same w w' := by
  have hmk := make_tens0 n hn
  have HN : Hid (n * 16 ≤ 140737488355328) := hn
  have n0 : (0 : Int) ≤ (n : Int) := by omega
  have n1 : (n : Int) < 9000000000000 := by omega
  clear hn
  go_enter Tryd.func37, Tryd.ntmps37
  go_upto_region 2 with fail
  iterate 7 go_step
  refine wpList_copy_ten rfl (.tmp 7) (.tmp 8) rfl w.heap.size n n cap (Nat.le_refl _) a (fun _ => .int .i64 0) (tenF R B) rfl rfl (BAt.made' _ _ rfl _ _) (hT.alloc _).src (tenF_one R B) ?_
  intro w2 hb2 hk2
  go_wp2
  go_ret
  have h02 : Same w w2 := ⟨hk2.os, hk2.tape, hk2.output, Nat.le_trans (by simp) hk2.size, fun q hq _ => (hk2.block q (by simp; omega) (by omega)).trans (Below.heap_alloc _ _ _ hq)⟩
  refine ⟨rfl, ?_, h02⟩
  refine .inr ⟨w.heap.size, 0, rfl, hb2.lt, fun i hi => ?_, fun i hi => ?_⟩
  · rw [hb2.cell, Nat.zero_add, fArr_get _ _ _ (by omega), if_pos (by omega), tenF_even]
  · rw [hb2.cell, Nat.zero_add, fArr_get _ _ _ (by omega), if_pos (by omega), tenF_odd]

set_option maxHeartbeats 1000000 in
theorem fits_yes (le wi : Int) (a : Option Addr) (n cap : Nat) (R B : Nat → Int) (w : World) (hT : Ten w a n R B) (ok : Good le wi n R B) :
    Calls Tryd.prog 38 #[.agg #[.int .i64 le, .int .i64 wi, .slice a n cap]] w fun e w' => e = .returned (.bool true) ∧ Same w w' := by
  obtain ⟨l0, l1, ⟨hn0, hn4, hall⟩, w0, wall⟩ := ok
  rcases hT with hT | ⟨b, off, rfl, hb, hR, hB⟩
  · exact absurd hT hn0
  have e0 : 1 ≤ (n : Int) := by omega
  have e4 : (n : Int) ≤ 4 := by omega
  have HALL : Hid (∀ i, i < n → TenOk (R i) (B i)) := hall
  have WALL : Hid (∀ i, i < n → wi ≤ B i) := wall
  have HR : Hid (∀ i, i < n → w.cell? ⟨b, off + i * 2, none⟩ = some (.int .i64 (R i))) := hR
  have HB : Hid (∀ i, i < n → w.cell? ⟨b, off + i * 2 + 1, none⟩ = some (.int .i64 (B i))) := hB
  clear hall wall hR hB
  go_enter Tryd.func38, Tryd.ntmps38
  go_wp2
  have hbs : BAt (w.alloc (.cells #[.int .i64 le, .int .i64 wi, .slice (some ⟨b, off, none⟩) n cap] 24)) w.heap.size 24 #[.int .i64 le, .int .i64 wi, .slice (some ⟨b, off, none⟩) n cap] := BAt.made' _ _ rfl _ _
  go_loopw [4] (fun x wr => ∃ k : Nat, k ≤ n ∧ x = .int .i64 k ∧ Same (w.alloc (.cells #[.int .i64 le, .int .i64 wi, .slice (some ⟨b, off, none⟩) n cap] 24)) wr) (fun x _ => n - (intOf x).toNat)
  case atStart => exact ⟨0, by omega, rfl, Kept.refl _ _⟩
  case round =>
    obtain ⟨k, hk, rfl, hS⟩ := hrel
    have hsb := hbs.kept hS (fun h => h)
    have hS0 : Same w wr := (Kept.alloc (Kept.refl _ _) _).trans hS
    obtain ⟨hc, hf⟩ := kcell hS0
    have hsz := hS0.size
    have q0 : wr.cell? ⟨w.heap.size, 0, none⟩ = some (.int .i64 le) := hsb.cell 0
    have q1 : wr.cell? ⟨w.heap.size, 1, none⟩ = some (.int .i64 wi) := hsb.cell 1
    have q2 : wr.cell? ⟨w.heap.size, 2, none⟩ = some (.slice (some ⟨b, off, none⟩) n cap) := hsb.cell 2
    have hlt2 := hsb.lt
    by_cases hlt : k < n
    · obtain ⟨r0, r1, b0, b1⟩ := HALL.out k hlt
      have wb := WALL.out k hlt
      have cR := (hc b (off + k * 2) hb).trans (HR.out k hlt)
      have cB := (hc b (off + k * 2 + 1) hb).trans (HB.out k hlt)
      have hki : (k : Int) < n := by omega
      have hbr : b < wr.heap.size := by omega
      clear hc hf hS0
      go_wp2
      exact ⟨⟨k + 1, by omega, by go_num, hS.alloc _⟩, by simp [intOf]; omega⟩
    · go_wp2
      go_ret
      exact ⟨rfl, hS0⟩

set_option maxHeartbeats 2000000 in
theorem fits_no (le wi : Int) (a : Option Addr) (n cap : Nat) (R B : Nat → Int) (w : World) (hT : Ten w a n R B) (hn : n * 16 ≤ 140737488355328) (no : ¬ Good le wi n R B) :
    Calls Tryd.prog 38 #[.agg #[.int .i64 le, .int .i64 wi, .slice a n cap]] w fun e w' => e = .returned (.bool false) ∧ Same w w' := by
  have nb : (n : Int) < 9000000000000 := by omega
  clear hn
  by_cases l0 : le < 1
  · clear no
    go_enter Tryd.func38, Tryd.ntmps38
    go_wp2
    go_ret
    exact ⟨rfl, Kept.alloc (Kept.refl _ _) _⟩
  by_cases l1 : 1000 < le
  · clear no
    go_enter Tryd.func38, Tryd.ntmps38
    go_wp2
    go_ret
    exact ⟨rfl, Kept.alloc (Kept.refl _ _) _⟩
  by_cases n0 : (n : Int) < 1
  · clear no
    go_enter Tryd.func38, Tryd.ntmps38
    go_wp2
    go_ret
    exact ⟨rfl, Kept.alloc (Kept.refl _ _) _⟩
  by_cases n4 : 4 < (n : Int)
  · clear no
    go_enter Tryd.func38, Tryd.ntmps38
    go_wp2
    go_ret
    exact ⟨rfl, Kept.alloc (Kept.refl _ _) _⟩
  by_cases w0 : wi < 0
  · clear no
    go_enter Tryd.func38, Tryd.ntmps38
    go_wp2
    go_ret
    exact ⟨rfl, Kept.alloc (Kept.refl _ _) _⟩
  rcases hT with hT | ⟨b, off, rfl, hb, hR, hB⟩
  · omega
  have NO : Hid (¬ ∀ i, i < n → TenOk (R i) (B i) ∧ wi ≤ B i) := fun hall => no ⟨by omega, by omega, ⟨by omega, by omega, fun i hi => (hall i hi).1⟩, by omega, fun i hi => (hall i hi).2⟩
  have HR : Hid (∀ i, i < n → w.cell? ⟨b, off + i * 2, none⟩ = some (.int .i64 (R i))) := hR
  have HB : Hid (∀ i, i < n → w.cell? ⟨b, off + i * 2 + 1, none⟩ = some (.int .i64 (B i))) := hB
  clear no hR hB
  go_enter Tryd.func38, Tryd.ntmps38
  go_wp2
  have hbs : BAt (w.alloc (.cells #[.int .i64 le, .int .i64 wi, .slice (some ⟨b, off, none⟩) n cap] 24)) w.heap.size 24 #[.int .i64 le, .int .i64 wi, .slice (some ⟨b, off, none⟩) n cap] := BAt.made' _ _ rfl _ _
  go_loopw [4] (fun x wr => ∃ k : Nat, k ≤ n ∧ x = .int .i64 k ∧ (∀ j, j < k → TenOk (R j) (B j) ∧ wi ≤ B j) ∧ Same (w.alloc (.cells #[.int .i64 le, .int .i64 wi, .slice (some ⟨b, off, none⟩) n cap] 24)) wr) (fun x _ => n - (intOf x).toNat)
  case atStart => exact ⟨0, by omega, rfl, fun j hj => absurd hj (Nat.not_lt_zero _), Kept.refl _ _⟩
  case round =>
    obtain ⟨k, hk, rfl, hall, hS⟩ := hrel
    have HL : Hid (∀ j, j < k → TenOk (R j) (B j) ∧ wi ≤ B j) := hall
    clear hall
    have hsb := hbs.kept hS (fun h => h)
    have hS0 : Same w wr := (Kept.alloc (Kept.refl _ _) _).trans hS
    obtain ⟨hc, hf⟩ := kcell hS0
    have hsz := hS0.size
    have q0 : wr.cell? ⟨w.heap.size, 0, none⟩ = some (.int .i64 le) := hsb.cell 0
    have q1 : wr.cell? ⟨w.heap.size, 1, none⟩ = some (.int .i64 wi) := hsb.cell 1
    have q2 : wr.cell? ⟨w.heap.size, 2, none⟩ = some (.slice (some ⟨b, off, none⟩) n cap) := hsb.cell 2
    have hlt2 := hsb.lt
    by_cases hlt : k < n
    · have cR := (hc b (off + k * 2) hb).trans (HR.out k hlt)
      have cB := (hc b (off + k * 2 + 1) hb).trans (HB.out k hlt)
      have hki : (k : Int) < n := by omega
      have hbr : b < wr.heap.size := by omega
      clear hc hf
      by_cases r0 : R k < 0
      · go_wp2
        go_ret
        exact ⟨rfl, hS0.alloc _⟩
      by_cases r1 : 1000 < R k
      · go_wp2
        go_ret
        exact ⟨rfl, hS0.alloc _⟩
      by_cases b0 : B k < 1
      · go_wp2
        go_ret
        exact ⟨rfl, hS0.alloc _⟩
      by_cases b1 : 1000000 < B k
      · go_wp2
        go_ret
        exact ⟨rfl, hS0.alloc _⟩
      by_cases wb : B k < wi
      · go_wp2
        go_ret
        exact ⟨rfl, hS0.alloc _⟩
      go_wp2
      refine ⟨⟨k + 1, by omega, by go_num, fun j hj => ?_, hS.alloc _⟩, by simp [intOf]; omega⟩
      rcases Nat.lt_succ_iff_lt_or_eq.1 hj with h | h
      · exact HL.out j h
      · subst h; exact ⟨⟨by omega, by omega, by omega, by omega⟩, by omega⟩
    · exact absurd (fun i hi => HL.out i (by omega)) NO.out

end Go.Proofs.YtpfahgogjeignabDoor
