/-
  The program's New.
-/
import Derived.Test.YtpfahgogjeignabDoorProF
import Derived.Test.YtpfahgogjeignabDoorProG
set_option linter.unusedVariables false
set_option linter.unusedSimpArgs false
namespace Go.Proofs.YtpfahgogjeignabDoor
open Go.RowKit
attribute [local go_sem] pcg0 pcg1 pcg2 pcg3 pcg4 pcg5 pcg6 pcg7 pcg8 pcg9 pcg10 pcg11 pcg12 pcg13 pcg14 pcg15 pcg16 pcg17 pcg18 pcg19 pcg20 pcg21 pcg22 pcg23 pcg24 pcg25 pcg26 pcg27 pcg28 pcg29 pcg30 pcg31 pcg32 pcg33 pcg34 pcg35 pcg36 pcg37 pcg38 pcg39 pcg40 pcg41 pcg42
attribute [local go_sem] pcgRateN pcgBurstN pcgRate pcgBurst pcgLink pcgUp pcgEpoch pcgTil pcgAlone pcgLev pcgWin

/-- A cluster in the making: k tenants are laid, i gates are, h is the holder. -/
def PC.fresh (le wi : Int) (n : Nat) (R B : Nat → Int) (k i : Nat) (h : Int) : PC :=
  { lease := le, window := wi, count := n, rate := fun j => if j < k then R j else 0, burst := fun j => if j < k then B j else 0, now := 0, link := fun _ => 0,
    up := fun j => decide (j < i), epoch := fun _ => 0, til := fun _ => 0, alone := fun _ => false, lev := fun j q => if j < i then (if q < n then B q - wi else 0) else 0,
    win := fun _ _ => 0, holder := h, wepoch := 0, wtil := 0, solo := false }

theorem fresh_ok {le wi : Int} {n : Nat} {R B : Nat → Int} (l0 : 1 ≤ le) (l1 : le ≤ 1000) (hT : TensOk n R B) (hW : WinOk wi n B) (i : Nat) (h : Int) : (PC.fresh le wi n R B n i h).Ok := by
  obtain ⟨n0, n4, hall⟩ := hT
  obtain ⟨w0, wall⟩ := hW
  have w1 := wall 0 (by omega)
  obtain ⟨_, _, _, b1⟩ := hall 0 (by omega)
  refine ⟨l0, l1, w0, ?_, ?_, ?_, ?_, ?_, ?_, ?_, ?_, by show (0 : Int) ≤ 0; omega, by show (0 : Int) ≤ _; omega, ?_, ?_, fun _ _ => Int.le_refl _, fun _ _ => w0⟩
  · show wi ≤ _; omega
  · show 1 ≤ (n : Int); omega
  · show (n : Int) ≤ 4; omega
  · intro k; show 0 ≤ (if _ then _ else _ : Int); split
    · rename_i hk; exact (hall k hk).1
    · omega
  · intro k; show (if _ then _ else _ : Int) ≤ 1000; split
    · rename_i hk; exact (hall k hk).2.1
    · omega
  · intro k; show 0 ≤ (if _ then _ else _ : Int); split
    · rename_i hk; have := (hall k hk).2.2.1; omega
    · omega
  · intro k; show (if _ then _ else _ : Int) ≤ 1000000; split
    · rename_i hk; exact (hall k hk).2.2.2
    · omega
  · intro k hk
    have hk' : k < n := by have : (k : Int) < (n : Int) := hk; omega
    show wi ≤ (if _ then _ else _ : Int)
    rw [if_pos hk']
    exact wall k hk'
  · intro j q; show 0 ≤ (if _ then _ else _ : Int); split
    · split
      · rename_i hq; have := wall q hq; show 0 ≤ B q - wi; omega
      · omega
    · omega
  · intro j q; show (if _ then _ else _ : Int) ≤ 1000000; split
    · split
      · rename_i hq; have := (hall q hq).2.2.2; show B q - wi ≤ 1000000; omega
      · omega
    · omega

theorem fresh_ten (le wi : Int) (n : Nat) (R B : Nat → Int) (k : Nat) (hk : k < 4) :
    ((pcArr (PC.fresh le wi n R B k 0 0)).setIfInBounds (3 + k * 2) (.int .i64 (R k))).setIfInBounds (3 + k * 2 + 1) (.int .i64 (B k)) = pcArr (PC.fresh le wi n R B (k + 1) 0 0) := by
  rcases (by omega : k = 0 ∨ k = 1 ∨ k = 2 ∨ k = 3) with rfl | rfl | rfl | rfl <;> rfl
theorem fresh_gate0 (le wi : Int) (n : Nat) (R B : Nat → Int) (hn : n ≤ 4) : ((((((((((((pcArr (PC.fresh le wi n R B n 0 0)).setIfInBounds 15 (.bool true)).setIfInBounds 16 (.int .i64 0)).setIfInBounds 17 (.int .i64 0)).setIfInBounds 18 (.bool false)).setIfInBounds 19 (.int .i64 ((PC.fresh le wi n R B n 0 0).roomsTo (PC.fresh le wi n R B n 0 0).count.toNat 0))).setIfInBounds 20 (.int .i64 ((PC.fresh le wi n R B n 0 0).roomsTo (PC.fresh le wi n R B n 0 0).count.toNat 1))).setIfInBounds 21 (.int .i64 ((PC.fresh le wi n R B n 0 0).roomsTo (PC.fresh le wi n R B n 0 0).count.toNat 2))).setIfInBounds 22 (.int .i64 ((PC.fresh le wi n R B n 0 0).roomsTo (PC.fresh le wi n R B n 0 0).count.toNat 3))).setIfInBounds 23 (.int .i64 0)).setIfInBounds 24 (.int .i64 0)).setIfInBounds 25 (.int .i64 0)).setIfInBounds 26 (.int .i64 0) = pcArr (PC.fresh le wi n R B n 1 0) := by
  rcases (by omega : n = 0 ∨ n = 1 ∨ n = 2 ∨ n = 3 ∨ n = 4) with rfl | rfl | rfl | rfl | rfl <;> (simp only [pcArr, List.setIfInBounds_toArray, List.set_cons_succ, List.set_cons_zero]; rfl)
theorem fresh_gate1 (le wi : Int) (n : Nat) (R B : Nat → Int) (hn : n ≤ 4) : ((((((((((((pcArr (PC.fresh le wi n R B n 1 0)).setIfInBounds 27 (.bool true)).setIfInBounds 28 (.int .i64 0)).setIfInBounds 29 (.int .i64 0)).setIfInBounds 30 (.bool false)).setIfInBounds 31 (.int .i64 ((PC.fresh le wi n R B n 1 0).roomsTo (PC.fresh le wi n R B n 1 0).count.toNat 0))).setIfInBounds 32 (.int .i64 ((PC.fresh le wi n R B n 1 0).roomsTo (PC.fresh le wi n R B n 1 0).count.toNat 1))).setIfInBounds 33 (.int .i64 ((PC.fresh le wi n R B n 1 0).roomsTo (PC.fresh le wi n R B n 1 0).count.toNat 2))).setIfInBounds 34 (.int .i64 ((PC.fresh le wi n R B n 1 0).roomsTo (PC.fresh le wi n R B n 1 0).count.toNat 3))).setIfInBounds 35 (.int .i64 0)).setIfInBounds 36 (.int .i64 0)).setIfInBounds 37 (.int .i64 0)).setIfInBounds 38 (.int .i64 0) = pcArr (PC.fresh le wi n R B n 2 0) := by
  rcases (by omega : n = 0 ∨ n = 1 ∨ n = 2 ∨ n = 3 ∨ n = 4) with rfl | rfl | rfl | rfl | rfl <;> (simp only [pcArr, List.setIfInBounds_toArray, List.set_cons_succ, List.set_cons_zero]; rfl)

set_option maxHeartbeats 400000 in
theorem new_lease (le wi : Int) (a : Option Addr) (n cap : Nat) (w : World) (hl : le < 1 ∨ 1000 < le) :
    Calls Tryd.prog 36 #[.int .i64 le, .int .i64 wi, .slice a n cap] w fun e w' => e = .returned (.tuple #[.pointer none, .int .i64 1]) ∧ Same w w' := by
  by_cases h1 : le < 1
  · clear hl
    go_enter Tryd.func36, Tryd.ntmps36
    go_wp2
    go_ret2
    exact ⟨rfl, Kept.refl _ _⟩
  · have h2 : 1000 < le := by omega
    clear hl
    go_enter Tryd.func36, Tryd.ntmps36
    go_wp2
    go_ret2
    exact ⟨rfl, Kept.refl _ _⟩

set_option maxHeartbeats 400000 in
theorem new_tenants (le wi : Int) (a : Option Addr) (n cap : Nat) (R B : Nat → Int) (w : World) (hT : Ten w a n R B) (l0 : 1 ≤ le) (l1 : le ≤ 1000) (no : ¬ TensOk n R B) :
    Calls Tryd.prog 36 #[.int .i64 le, .int .i64 wi, .slice a n cap] w fun e w' => e = .returned (.tuple #[.pointer none, .int .i64 2]) ∧ Same w w' := by
  have NO : Hid (¬ TensOk n R B) := no
  clear no
  go_enter Tryd.func36, Tryd.ntmps36
  go_wp2_with (go_at_call 63; refine (areTenants_no a n cap R B _ hT NO.out).mono ?_; rintro e w1 ⟨rfl, hS⟩)
  go_ret2
  exact ⟨rfl, hS⟩

set_option maxHeartbeats 400000 in
theorem new_window (le wi : Int) (a : Option Addr) (n cap : Nat) (R B : Nat → Int) (w : World) (hT : Ten w a n R B) (l0 : 1 ≤ le) (l1 : le ≤ 1000) (ok : TensOk n R B) (no : ¬ WinOk wi n B) :
    Calls Tryd.prog 36 #[.int .i64 le, .int .i64 wi, .slice a n cap] w fun e w' => e = .returned (.tuple #[.pointer none, .int .i64 3]) ∧ Same w w' := by
  have NO : Hid (¬ WinOk wi n B) := no
  have OK : Hid (TensOk n R B) := ok
  clear no ok
  go_enter Tryd.func36, Tryd.ntmps36
  go_wp2_with (first | (go_at_call 63; refine (areTenants_yes a n cap R B _ hT OK.out).mono ?_; rintro e w1 ⟨rfl, hS⟩) | (go_at_call 64; refine (isWindow_no wi a n cap R B _ (hT.same hS) OK.out.1 OK.out.2.1 NO.out).mono ?_; rintro e w2 ⟨rfl, hS2⟩))
  go_ret2
  exact ⟨rfl, hS.trans hS2⟩

set_option maxHeartbeats 2000000 in
theorem new_yes (le wi : Int) (a : Option Addr) (n cap : Nat) (R B : Nat → Int) (w : World) (hT : Ten w a n R B) (l0 : 1 ≤ le) (l1 : le ≤ 1000) (ok : TensOk n R B) (wok : WinOk wi n B) :
    Calls Tryd.prog 36 #[.int .i64 le, .int .i64 wi, .slice a n cap] w fun e w' => ∃ b, e = .returned (.tuple #[.pointer (some ⟨b, 0, none⟩), .int .i64 0]) ∧ w.heap.size ≤ b ∧ PAt w' b (PC.fresh le wi n R B n 2 (-1)) ∧ Same w w' := by
  have n0 := ok.1
  have n4 := ok.2.1
  have n4i : (n : Int) ≤ 4 := by omega
  have fok := fun i h => fresh_ok l0 l1 ok wok i h
  have FOK : Hid (∀ i h, (PC.fresh le wi n R B n i h).Ok) := fok
  have OK : Hid (TensOk n R B) := ok
  have WOK : Hid (WinOk wi n B) := wok
  clear ok wok fok
  have HT := hT
  rcases HT with HT | ⟨b0, off, rfl, hb0, hR, hB⟩
  · exact absurd HT n0
  go_enter Tryd.func36, Tryd.ntmps36
  go_wp2_with (first | (go_at_call 63; refine (areTenants_yes _ n cap R B _ hT OK.out).mono ?_; rintro e w1 ⟨rfl, hS⟩) | (go_at_call 64; refine (isWindow_yes wi _ n cap R B _ (hT.same hS) OK.out.1 OK.out.2.1 WOK.out).mono ?_; rintro e w2 ⟨rfl, hS2⟩))
  have hS02 := hS.trans hS2
  have hsz2 := hS02.size
  go_loopw [33] (fun x wr => ∃ k : Nat, k ≤ n ∧ x = .int .i64 k ∧ PAt wr w2.heap.size (PC.fresh le wi n R B k 0 0) ∧ Same w wr) (fun x _ => n - (intOf x).toNat)
  case atStart => exact ⟨0, by omega, rfl, PAt.of (BAt.made _ _ _) rfl, hS02.alloc _⟩
  case round =>
    obtain ⟨k, hk, rfl, hP, hSr⟩ := hrel
    obtain ⟨hc, hf⟩ := kcell hSr
    have hsz := hSr.size
    have hC := hP.cell
    have hF := hP.free
    have hlt2 := hP.lt
    by_cases hlt : k < n
    · have cR := hR k hlt
      have cB := hB k hlt
      have hki : (k : Int) < n := by omega
      have hk4 : (k : Int) < 4 := by omega
      have hk4n : k < 4 := by omega
      have hbr : b0 < wr.heap.size := by omega
      clear hR hB
      go_wp2
      go_region
      go_wp2
      refine ⟨⟨k + 1, by omega, by go_num, PAt.of ?_ (fresh_ten le wi n R B k hk4n), ?_⟩, by simp [intOf]; omega⟩
      · repeat (with_reducible first | refine BAt.drew ?_ | refine BAt.alloc ?_ _ | refine BAt.set ?_ _ _ | exact hP.bat)
      · repeat (with_reducible first | refine Kept.drew ?_ | refine Kept.alloc ?_ _ | refine Kept.setCell ?_ _ (.inr hsz2) _ | exact hSr)
    · have hkn : k = n := by omega
      subst hkn
      clear hR hB
      go_wp2
      go_loopw [45] (fun x wi2 => ∃ i : Nat, i ≤ 2 ∧ x = .int .i64 i ∧ PAt wi2 w2.heap.size (PC.fresh le wi k R B k i 0) ∧ Same w wi2) (fun x _ => 2 - (intOf x).toNat)
      case atStart => exact ⟨0, by omega, rfl, hP, hSr⟩
      case round =>
        clear hC hF hP hSr hc hf hsz hlt2
        obtain ⟨i, hi2, rfl, hP, hSr⟩ := hrel
        have hC := hP.cell
        have hF := hP.free
        have hsz := hSr.size
        rcases (by omega : i = 0 ∨ i = 1 ∨ i = 2) with rfl | rfl | rfl
        · have HG := fresh_gate0 le wi k R B (by omega)
          have HH : Hid (((((((((((((pcArr (PC.fresh le wi k R B k 0 0)).setIfInBounds 15 (.bool true)).setIfInBounds 16 (.int .i64 0)).setIfInBounds 17 (.int .i64 0)).setIfInBounds 18 (.bool false)).setIfInBounds 19 (.int .i64 ((PC.fresh le wi k R B k 0 0).roomsTo (PC.fresh le wi k R B k 0 0).count.toNat 0))).setIfInBounds 20 (.int .i64 ((PC.fresh le wi k R B k 0 0).roomsTo (PC.fresh le wi k R B k 0 0).count.toNat 1))).setIfInBounds 21 (.int .i64 ((PC.fresh le wi k R B k 0 0).roomsTo (PC.fresh le wi k R B k 0 0).count.toNat 2))).setIfInBounds 22 (.int .i64 ((PC.fresh le wi k R B k 0 0).roomsTo (PC.fresh le wi k R B k 0 0).count.toNat 3))).setIfInBounds 23 (.int .i64 0)).setIfInBounds 24 (.int .i64 0)).setIfInBounds 25 (.int .i64 0)).setIfInBounds 26 (.int .i64 0) = pcArr (PC.fresh le wi k R B k 1 0)) := HG
          clear HG
          go_wp2
          go_region_with (go_at_call 65; refine (firstGate_any w2.heap.size (PC.fresh le wi k R B k 0 0) (FOK.out 0 0) _ (by exact hP)).mono ?_; rintro e w3 ⟨rfl, hS3⟩; simp only [gArr]; have hP3 := PAt.same (PAt.drew hP) hS3; have hF3 := hP3.free; have hC3 := hP3.cell)
          go_wp2
          refine ⟨⟨1, by omega, by go_num, PAt.of ?_ HH.out, ?_⟩, by simp [intOf]⟩
          · repeat (with_reducible first | refine BAt.drew ?_ | refine BAt.set ?_ _ _ | exact hP3.bat)
          · repeat (with_reducible first | refine Kept.drew ?_ | refine Kept.setCell ?_ _ (.inr hsz2) _ | exact (Kept.drew hSr).trans hS3)
        · have HG := fresh_gate1 le wi k R B (by omega)
          have HH : Hid (((((((((((((pcArr (PC.fresh le wi k R B k 1 0)).setIfInBounds 27 (.bool true)).setIfInBounds 28 (.int .i64 0)).setIfInBounds 29 (.int .i64 0)).setIfInBounds 30 (.bool false)).setIfInBounds 31 (.int .i64 ((PC.fresh le wi k R B k 1 0).roomsTo (PC.fresh le wi k R B k 1 0).count.toNat 0))).setIfInBounds 32 (.int .i64 ((PC.fresh le wi k R B k 1 0).roomsTo (PC.fresh le wi k R B k 1 0).count.toNat 1))).setIfInBounds 33 (.int .i64 ((PC.fresh le wi k R B k 1 0).roomsTo (PC.fresh le wi k R B k 1 0).count.toNat 2))).setIfInBounds 34 (.int .i64 ((PC.fresh le wi k R B k 1 0).roomsTo (PC.fresh le wi k R B k 1 0).count.toNat 3))).setIfInBounds 35 (.int .i64 0)).setIfInBounds 36 (.int .i64 0)).setIfInBounds 37 (.int .i64 0)).setIfInBounds 38 (.int .i64 0) = pcArr (PC.fresh le wi k R B k 2 0)) := HG
          clear HG
          go_wp2
          go_region_with (go_at_call 65; refine (firstGate_any w2.heap.size (PC.fresh le wi k R B k 1 0) (FOK.out 1 0) _ (by exact hP)).mono ?_; rintro e w3 ⟨rfl, hS3⟩; simp only [gArr]; have hP3 := PAt.same (PAt.drew hP) hS3; have hF3 := hP3.free; have hC3 := hP3.cell)
          go_wp2
          refine ⟨⟨2, by omega, by go_num, PAt.of ?_ HH.out, ?_⟩, by simp [intOf]⟩
          · repeat (with_reducible first | refine BAt.drew ?_ | refine BAt.set ?_ _ _ | exact hP3.bat)
          · repeat (with_reducible first | refine Kept.drew ?_ | refine Kept.setCell ?_ _ (.inr hsz2) _ | exact (Kept.drew hSr).trans hS3)
        · go_wp2
          go_ret2
          refine ⟨_, rfl, hsz2, PAt.of (hP.bat.set _ _) rfl, Kept.setCell hSr _ (.inr hsz2) _⟩

end Go.Proofs.YtpfahgogjeignabDoor
