/-
  The program's Pass.
-/
import Derived.Test.YtpfahgogjeignabDoorProA
set_option linter.unusedVariables false
set_option linter.unusedSimpArgs false
namespace Go.Proofs.YtpfahgogjeignabDoor
open Go.RowKit
attribute [local go_sem] pcg0 pcg1 pcg2 pcg3 pcg4 pcg5 pcg6 pcg7 pcg8 pcg9 pcg10 pcg11 pcg12 pcg13 pcg14 pcg15 pcg16 pcg17 pcg18 pcg19 pcg20 pcg21 pcg22 pcg23 pcg24 pcg25 pcg26 pcg27 pcg28 pcg29 pcg30 pcg31 pcg32 pcg33 pcg34 pcg35 pcg36 pcg37 pcg38 pcg39 pcg40 pcg41 pcg42
attribute [local go_sem] pcgRate pcgBurst pcgLink pcgUp pcgEpoch pcgTil pcgAlone pcgLev pcgWin

/-- Time has gone by at the nodes below i, and at node i for the tenants below k. -/
def PC.passTo (s : PC) (t i k : Int) : PC :=
  { s with now := s.now + t, lev := fun i' k' => if (k' : Int) < s.count ∧ ((i' : Int) < i ∨ ((i' : Int) = i ∧ (k' : Int) < k)) then s.grown k' (s.lev i' k') t else s.lev i' k' }
/-- So many ticks go by. -/
def PC.passed (s : PC) (t : Int) : PC := { s with now := s.now + t, lev := fun i' k' => if (k' : Int) < s.count ∧ i' < 2 then s.grown k' (s.lev i' k') t else s.lev i' k' }

theorem passTo_zero (s : PC) (t : Int) : s.passTo t 0 0 = { s with now := s.now + t } := by
  unfold PC.passTo
  congr 1
  funext i' k'
  rw [if_neg]
  omega
theorem passTo_row (s : PC) (t i : Int) : s.passTo t i s.count = s.passTo t (i + 1) 0 := by
  unfold PC.passTo
  congr 1
  funext i' k'
  by_cases h : (k' : Int) < s.count ∧ (i' : Int) < i + 1
  · rw [if_pos (by omega), if_pos (by omega)]
  · rw [if_neg (by omega), if_neg (by omega)]
theorem passTo_two (s : PC) (t : Int) : s.passTo t 2 0 = s.passed t := by
  unfold PC.passTo PC.passed
  congr 1
  funext i' k'
  by_cases h : (k' : Int) < s.count ∧ i' < 2
  · rw [if_pos (by omega), if_pos h]
  · rw [if_neg (by omega), if_neg h]
def PC.setLevs (s : PC) (f : Nat → Nat → Int) : PC := { s with lev := f }
theorem lev_set (s : PC) (i k v : Int) (h0 : 0 ≤ i) (h : i < 2) (k0 : 0 ≤ k) (k4 : k < 4) :
    (pcArr s).setIfInBounds (15 + i.toNat * 12 + 4 + k.toNat) (.int .i64 v) = pcArr (s.setLevs (upd s.lev i.toNat (upd (s.lev i.toNat) k.toNat v))) := by
  rcases lt2 h0 h with rfl | rfl <;> rcases lt4 k0 k4 with rfl | rfl | rfl | rfl <;> rfl
theorem passTo_lev (s : PC) (t i k : Int) (h0 : 0 ≤ i) (k0 : 0 ≤ k) : (s.passTo t i k).lev i.toNat k.toNat = s.lev i.toNat k.toNat := by
  unfold PC.passTo
  exact if_neg (by omega)
theorem passTo_step (s : PC) (t i k : Int) (h0 : 0 ≤ i) (k0 : 0 ≤ k) (kc : k < s.count) :
    (s.passTo t i k).setLevs (upd (s.passTo t i k).lev i.toNat (upd ((s.passTo t i k).lev i.toNat) k.toNat (s.grown k.toNat (s.lev i.toNat k.toNat) t))) = s.passTo t i (k + 1) := by
  have e : upd (s.passTo t i k).lev i.toNat (upd ((s.passTo t i k).lev i.toNat) k.toNat (s.grown k.toNat (s.lev i.toNat k.toNat) t)) = (s.passTo t i (k + 1)).lev := by
    funext i' k'
    unfold upd
    simp only [PC.passTo]
    by_cases hi : i' = i.toNat
    · rw [if_pos hi]
      by_cases hk : k' = k.toNat
      · rw [if_pos hk, if_pos (by omega), hi, hk]
      · rw [if_neg hk]
        by_cases hh : (k' : Int) < s.count ∧ (k' : Int) < k
        · rw [if_pos (by omega), if_pos (by omega), hi]
        · rw [if_neg (by omega), if_neg (by omega), hi]
    · rw [if_neg hi]
      by_cases hh : (k' : Int) < s.count ∧ (i' : Int) < i
      · rw [if_pos (by omega), if_pos (by omega)]
      · rw [if_neg (by omega), if_neg (by omega)]
  rw [e]
  rfl

theorem grown_bd {s : PC} (ok : s.Ok) (k : Nat) (kc : (k : Int) < s.count) (l t : Int) (l0 : 0 ≤ l) (t0 : 0 ≤ t) : 0 ≤ s.grown k l t ∧ s.grown k l t ≤ 1000000 := by
  unfold PC.grown
  have h1 := ok.burst1 k
  have h2 := ok.win0
  have h3 := ok.fits k kc
  have h4 := Int.mul_nonneg (ok.rate0 k) t0
  split <;> omega

theorem passTo_ok {s : PC} (ok : s.Ok) (t i k : Int) (t0 : 0 ≤ t) (t1 : t ≤ 1000000000000 - s.now) : (s.passTo t i k).Ok := by
  have n0 := ok.now0
  refine ⟨ok.lease0, ok.lease1, ok.win0, ok.win1, ok.count0, ok.count1, ok.rate0, ok.rate1, ok.burst0, ok.burst1, ok.fits, ?_, ?_, ?_, ?_, ok.wn0, ok.wn1⟩
  · show 0 ≤ s.now + t; omega
  · show s.now + t ≤ 1000000000000; omega
  · intro i' k'
    show 0 ≤ (if _ then _ else _ : Int)
    split
    · rename_i h; exact (grown_bd ok k' h.1 _ _ (ok.lev0 _ _) t0).1
    · exact ok.lev0 _ _
  · intro i' k'
    show (if _ then _ else _ : Int) ≤ 1000000
    split
    · rename_i h; exact (grown_bd ok k' h.1 _ _ (ok.lev0 _ _) t0).2
    · exact ok.lev1 _ _
theorem passed_ok {s : PC} (ok : s.Ok) (t : Int) (t0 : 0 ≤ t) (t1 : t ≤ 1000000000000 - s.now) : (s.passed t).Ok := by
  rw [← passTo_two]; exact passTo_ok ok t 2 0 t0 t1

set_option maxHeartbeats 400000 in
theorem pass_no (b : Nat) (s : PC) (t : Int) (ht : t < 0 ∨ 1000000000000 - s.now < t) (ok : s.Ok) (w : World) (hP : PAt w b s) :
    Calls Tryd.prog 22 #[.pointer (some ⟨b, 0, none⟩), .int .i64 t] w fun e' w' => e' = .returned (.int .i64 8) ∧ Same w w' := by
  have hC := hP.cell
  have n0 := ok.now0
  have n1 := ok.now1
  by_cases h0 : t < 0
  · clear ht
    go_enter Tryd.func22, Tryd.ntmps22
    go_wp2
    go_ret
    exact ⟨rfl, Kept.refl _ _⟩
  · have h1 : 1000000000000 - s.now < t := by omega
    clear ht
    go_enter Tryd.func22, Tryd.ntmps22
    go_wp2
    go_ret
    exact ⟨rfl, Kept.refl _ _⟩

set_option maxHeartbeats 1000000 in
theorem pass_yes (b : Nat) (s : PC) (t : Int) (t0 : 0 ≤ t) (t1 : t ≤ 1000000000000 - s.now) (ok : s.Ok) (w : World) (hP : PAt w b s) :
    Calls Tryd.prog 22 #[.pointer (some ⟨b, 0, none⟩), .int .i64 t] w fun e' w' => e' = .returned (.int .i64 0) ∧ PAt w' b (s.passed t) ∧ Wrote b w w' := by
  have hC := hP.cell
  have hF := hP.free
  have n0 := ok.now0
  have n1 := ok.now1
  have hT : ¬ t < 0 := by omega
  have hA : PAt (w.setCell ⟨b, 11, none⟩ (.int .i64 (s.now + t))) b (s.passTo t 0 0) := by rw [passTo_zero]; exact PAt.of (hP.bat.set _ _) rfl
  have HA : Hid (PAt (w.setCell ⟨b, 11, none⟩ (.int .i64 (s.now + t))) b (s.passTo t 0 0)) := hA
  clear hA
  go_enter Tryd.func22, Tryd.ntmps22
  go_wp2
  go_loopw [26] (fun x wr => ∃ i : Int, 0 ≤ i ∧ i ≤ 2 ∧ x = .int .i64 i ∧ PAt wr b (s.passTo t i 0) ∧ Wrote b w wr) (fun x _ => (2 - intOf x).toNat)
  case atStart => exact ⟨0, by omega, by omega, rfl, HA.out, Wrote.set (Kept.refl _ _) _ _⟩
  case round =>
    obtain ⟨i, i0, i2, rfl, hPr, hWr⟩ := hrel
    clear hC hF hP HA
    by_cases hlt : i < 2
    · go_wp2
      go_loopw [6] (fun x wi => ∃ k : Int, 0 ≤ k ∧ k ≤ s.count ∧ x = .int .i64 k ∧ PAt wi b (s.passTo t i k) ∧ Wrote b w wi) (fun x _ => (s.count - intOf x).toNat)
      case atStart => exact ⟨0, by omega, by have := ok.count0; omega, rfl, hPr, hWr⟩
      case round =>
        clear hPr hWr
        obtain ⟨k, k0, k1, rfl, hPi, hWi⟩ := hrel
        have hC := hPi.cell
        have hF := hPi.free
        have hcnt : (s.passTo t i k).count = s.count := rfl
        have c1 := ok.count1
        by_cases hk : k < s.count
        · have k4 : k < 4 := by omega
          have hl := passTo_lev s t i k i0 k0
          have hS := lev_set (s.passTo t i k) i k (s.grown k.toNat (s.lev i.toNat k.toNat) t) i0 hlt k0 k4
          rw [passTo_step s t i k i0 k0 hk] at hS
          have HS : Hid ((pcArr (s.passTo t i k)).setIfInBounds (15 + i.toNat * 12 + 4 + k.toNat) (.int .i64 (s.grown k.toNat (s.lev i.toNat k.toNat) t)) = pcArr (s.passTo t i (k + 1))) := hS
          clear hS
          have eg : (s.passTo t i k).grown k.toNat (s.lev i.toNat k.toNat) t = s.grown k.toNat (s.lev i.toNat k.toNat) t := rfl
          have gk := passTo_ok ok t i k t0 t1
          have l0 := ok.lev0 i.toNat k.toNat
          have l1 := ok.lev1 i.toNat k.toNat
          go_wp2
          go_region_with (go_at_call 44; refine (grown_any b (s.passTo t i k) k (s.lev i.toNat k.toNat) t k0 k4 l0 l1 t0 (by omega) _ (by exact hPi) gk).mono ?_; rintro e w2 ⟨rfl, n, rfl⟩; simp only [eg])
          go_wp2
          refine ⟨⟨k + 1, by omega, by omega, rfl, PAt.of ?_ HS.out, ?_⟩, by simp [intOf]; omega⟩
          · repeat (with_reducible first | refine BAt.drew ?_ | refine BAt.drewN ?_ _ | refine BAt.set ?_ _ _ | exact hPi.bat)
          · repeat (with_reducible first | refine Kept.drew ?_ | refine Kept.drewN ?_ _ | refine Wrote.set ?_ _ _ | exact hWi)
        · have hke : k = s.count := by omega
          subst hke
          rw [passTo_row] at hPi
          go_wp2
          refine ⟨⟨i + 1, by omega, by omega, rfl, hPi, hWi⟩, by simp [intOf]; omega⟩
    · have hi : i = 2 := by omega
      subst hi
      rw [passTo_two] at hPr
      go_wp2
      go_ret
      exact ⟨rfl, hPr, hWr⟩

end Go.Proofs.YtpfahgogjeignabDoor
