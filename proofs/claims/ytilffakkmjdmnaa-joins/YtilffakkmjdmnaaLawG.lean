/-
  step where it tells; News.
-/
import Derived.Test.YtilffakkmjdmnaaLawE
import Derived.Test.YtilffakkmjdmnaaLawF
set_option linter.unusedVariables false
set_option linter.unusedSimpArgs false
namespace Go.Proofs.Ytilffakkmjdmnaa
open Go.RowKit

theorem tells_all (p b : Nat) (A : RA) (s : PC) (r : RS) (k x y z : Int) (w : World) (hp : Pair w p b A s r) (hs : Sim s r) :
    Calls Try.prog 37 #[.pointer (some ⟨p, 0, none⟩), .agg #[.int .i64 k, .int .i64 x, .int .i64 y, .int .i64 z]] w fun e w' => e = .returned (.bool true) ∧ Same w w' := by
  by_cases h9 : k = 9
  · subst h9; exact tells_time p b A s r x y z w hp hs
  by_cases h10 : k = 10
  · subst h10; exact tells_witness p b A s r x y z w hp hs
  by_cases h11 : k = 11
  · subst h11; exact tells_node p b A s r x y z w hp hs
  by_cases h12 : k = 12
  · subst h12; exact tells_level p b A s r x y z w hp hs
  exact tells_other p k x y z w h9 h10 h11 h12

set_option maxRecDepth 100000 in
set_option maxHeartbeats 1000000 in
theorem step_tells (p b : Nat) (A : RA) (s : PC) (r : RS) (k x y z : Int) (hk : 9 ≤ k) (hk2 : k ≤ 12) (w : World) (hp : Pair w p b A s r) (hs : Sim s r) :
    Calls Try.prog 15 #[.pointer (some ⟨p, 0, none⟩), .agg #[.int .i64 k, .int .i64 x, .int .i64 y, .int .i64 z]] w fun e w' => e = .returned (.bool true) ∧ Same w w' := by
  rcases (by omega : k = 9 ∨ k = 10 ∨ k = 11 ∨ k = 12) with rfl | rfl | rfl | rfl
  all_goals
    go_enter Try.func15, Try.ntmps15
    go_wp2_with (go_at_call 37; refine (tells_all p b A s r _ x y z _ (hp.same ((Kept.refl _ _).alloc _)) hs).mono ?_; rintro e w3 ⟨rfl, hS3⟩)
    go_ret
    exact ⟨rfl, (Kept.alloc (Kept.refl _ _) _).trans hS3⟩

theorem fresh_level (le wi : Int) (n : Nat) (R B : Nat → Int) (i k : Nat) : (RS.fresh le wi n R B).level i k = (RS.fresh le wi n R B).room k := by
  show RS.grown _ k ((RS.fresh le wi n R B).room k) (0 - 0) = _
  unfold RS.grown
  rw [Int.sub_zero, Int.mul_zero, Int.add_zero, if_neg (by omega)]

theorem rfresh_ok {le wi : Int} {n : Nat} {R B : Nat → Int} (g : Good le wi n R B) : (RS.fresh le wi n R B).Ok := by
  obtain ⟨l0, l1, ⟨n0, n4, hall⟩, ⟨w0, wall⟩⟩ := g
  have w1 := wall 0 (by omega)
  obtain ⟨_, _, _, b1⟩ := hall 0 (by omega)
  refine ⟨l0, l1, w0, ?_, ?_, n4, ?_, ?_, ?_, ?_, ?_, ?_, ?_⟩
  · show wi ≤ 1000000; omega
  · show 1 ≤ n; omega
  · intro k; simp only [RS.fresh]; split
    · rename_i hk; exact (hall k hk).1
    · omega
  · intro k; simp only [RS.fresh]; split
    · rename_i hk; exact (hall k hk).2.1
    · omega
  · intro k; simp only [RS.fresh]; split
    · rename_i hk; have := wall k hk; omega
    · omega
  · intro k; simp only [RS.fresh]; split
    · rename_i hk; have := (hall k hk).2.2.2; omega
    · omega
  · show (0 : Int) ≤ 0; omega
  · show (0 : Int) ≤ 1000000000000; omega
  · intro i k _ _
    show (0 : Int) ≤ 0
    omega

theorem sim_fresh {le wi : Int} {n : Nat} {R B : Nat → Int} (g : Good le wi n R B) : Sim (PC.fresh le wi n R B n 2 (-1)) (RS.fresh le wi n R B) := by
  refine ⟨fresh_ok g.l0 g.l1 g.ten g.win 2 (-1), rfresh_ok g, rfl, rfl, rfl, rfl, fun k hk => rfl, fun k hk => ?_, fun j _ => rfl, fun i hi => ?_, fun i _ => rfl, fun i _ => rfl, fun i _ => rfl, fun i k hi hk => ?_, fun i k _ _ => rfl, rfl, rfl, rfl, rfl⟩
  · have hk' : k < n := hk
    simp only [PC.fresh, RS.fresh]
    rw [if_pos hk', if_pos hk']
  · simp only [PC.fresh, RS.fresh]
    simpa using hi
  · rw [fresh_level]
    simp only [PC.fresh, RS.fresh]
    rw [if_pos hi]

set_option maxRecDepth 100000 in
set_option maxHeartbeats 2000000 in
theorem news_any (le wi : Int) (a : Option Addr) (n cap : Nat) (R B : Nat → Int) (w : World) (hT : Ten w a n R B) (hn : n * 16 ≤ 140737488355328) :
    Calls Try.prog 3 #[.agg #[.int .i64 le, .int .i64 wi, .slice a n cap]] w fun e w' => e = .returned (.bool true) ∧ Same w w' := by
  rcases Classical.em (Good le wi n R B) with g | no
  · have hsim := sim_fresh g
    have n4 := g.ten.2.1
    have HG : Hid (Good le wi n R B) := g
    have HN : Hid (n * 16 ≤ 140737488355328) := hn
    clear g hn
    go_enter Try.func3, Try.ntmps3
    go_wp2_with fail
    refine (made_yes le wi a n cap R B _ (hT.alloc _) HN.out HG.out).mono ?_
    rintro e w2 ⟨p, b, A, rfl, hp2, hS2, hpl, hbl, hAl⟩
    have hs2 : BAt w2 w.heap.size 24 #[.int .i64 le, .int .i64 wi, .slice a n cap] := (BAt.made' _ _ rfl _ _).kept hS2 (fun h => h)
    have hw2 : Same w w2 := (Kept.alloc (Kept.refl _ _) _).trans hS2
    clear hS2 hAl
    go_wp2_with fail
    have hpw := hp2
    go_loopw [4, 5] (fun x y wr => ∃ i : Nat, i ≤ 2 ∧ x = .bool true ∧ y = .int .i64 i ∧ Same w2 wr) (fun _ y _ => 2 - (intOf y).toNat)
    case atStart => exact ⟨0, by omega, rfl, rfl, Kept.refl _ _⟩
    case round =>
      obtain ⟨i, hi, rfl, rfl, hSr⟩ := hrel
      have hpr := hp2.same hSr
      by_cases hlt : i < 2
      · have hii : (i : Int) < 2 := by omega
        go_wp2_with fail
        refine (step_tells p b A _ _ 11 _ _ _ (by omega) (by omega) _ hpr hsim).mono ?_
        rintro e w3 ⟨rfl, hS3⟩
        have hS23 := hSr.trans hS3
        clear hSr hS3 hpr
        go_wp2_with fail
        go_loopw [4, 6] (fun x y wr => ∃ k : Nat, k ≤ n ∧ x = .bool true ∧ y = .int .i64 k ∧ Same w2 wr) (fun _ y _ => n - (intOf y).toNat)
        case atStart => exact ⟨0, by omega, rfl, rfl, hS23⟩
        case round =>
          obtain ⟨k, hk, rfl, rfl, hSk⟩ := hrel
          have hpk := hp2.same hSk
          have hsk := hs2.kept hSk (fun h => h)
          have hskc := hsk.cell
          by_cases hlk : k < n
          · have hki : (k : Int) < n := by omega
            go_wp2_with fail
            refine (step_tells p b A _ _ 12 _ _ _ (by omega) (by omega) _ hpk hsim).mono ?_
            rintro e w4 ⟨rfl, hS4⟩
            go_wp2_with fail
            exact ⟨⟨k + 1, by omega, rfl, by go_num, hSk.trans hS4⟩, by simp [intOf]; omega⟩
          · go_wp2_with fail
            exact ⟨⟨i + 1, by omega, rfl, by go_num, hSk⟩, by simp [intOf]; omega⟩
      · go_wp2_with fail
        refine (step_tells p b A _ _ 9 _ _ _ (by omega) (by omega) _ hpr hsim).mono ?_
        rintro e w3 ⟨rfl, hS3⟩
        go_wp2_with fail
        refine (step_tells p b A _ _ 10 _ _ _ (by omega) (by omega) _ (hpr.same hS3) hsim).mono ?_
        rintro e w4 ⟨rfl, hS4⟩
        go_wp2_with fail
        go_ret
        exact ⟨rfl, ((hw2.trans hSr).trans hS3).trans hS4⟩
  · go_enter Try.func3, Try.ntmps3
    go_wp2_with (go_at_call 14; refine (made_no le wi a n cap R B _ (hT.alloc _) hn no).mono ?_; rintro e w2 ⟨rfl, hS2⟩)
    go_ret
    exact ⟨rfl, (Kept.alloc (Kept.refl _ _) _).trans hS2⟩

end Go.Proofs.Ytilffakkmjdmnaa
