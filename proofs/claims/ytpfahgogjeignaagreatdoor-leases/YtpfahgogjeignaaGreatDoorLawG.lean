/-
  What a pair tells, kind by kind.
-/
import Derived.Test.YtpfahgogjeignaaGreatDoorLawD
set_option linter.unusedVariables false
set_option linter.unusedSimpArgs false
namespace Go.Proofs.YtpfahgogjeignaaGreatDoor
open Go.RowKit
attribute [local go_sem] fArr_get
attribute [local go_sem ↓] Go.wp_at_zero Go.wp_at_succ

set_option maxRecDepth 100000 in
set_option maxHeartbeats 1000000 in
theorem tells_node (p b : Nat) (A : RA) (s : PC) (r : RS) (i y z : Int) (w : World) (hp : Pair w p b A s r) (hs : Sim s r) :
    Calls Tryz.prog 20 #[.pointer (some ⟨p, 0, none⟩), .agg #[.int .i64 11, .int .i64 i, .int .i64 y, .int .i64 z]] w fun e w' => e = .returned (.bool true) ∧ Same w w' := by
  have hC := hp.hp.cell
  have hl := hp.hp.lt
  have g0 : (#[Value.pointer (some ⟨b, 0, none⟩), Value.pointer (some ⟨A.c, 0, none⟩)] : Array Value)[0]? = some (.pointer (some ⟨b, 0, none⟩)) := rfl
  have g1 : (#[Value.pointer (some ⟨b, 0, none⟩), Value.pointer (some ⟨A.c, 0, none⟩)] : Array Value)[1]? = some (.pointer (some ⟨A.c, 0, none⟩)) := rfl
  have hc0 : w.cell? ⟨p, 0, none⟩ = some (.pointer (some ⟨b, 0, none⟩)) := hC 0
  have hc1 : w.cell? ⟨p, 1, none⟩ = some (.pointer (some ⟨A.c, 0, none⟩)) := hC 1
  clear hC g0 g1
  go_enter Tryz.func20, Tryz.ntmps20
  go_wp2_with fail
  go_cut [8, 9] from 19 (fun x8 x9 wx => ∃ ga, x8 = .pointer (some ⟨ga, 0, none⟩) ∧ x9 = .int .i64 (nC i) ∧ BAt wx ga 56 #[.bool (nB i (s.up i.toNat)), .int .i64 (nI i (s.epoch i.toNat)), .int .i64 (nI i (s.til i.toNat)), .bool (nB i (s.alone i.toNat))] ∧ Same (w.alloc (.cells #[.int .i64 11, .int .i64 i, .int .i64 y, .int .i64 z] 34)) wx)
  case first =>
    go_region_with (first | (go_at_call 45; refine (pnode_all b s i _ (PAt.drew (PAt.same hp.hc ((Kept.refl _ _).alloc _)))).mono ?_; rintro e w3 ⟨rfl, hS3⟩; simp only [nodeV]) | (go_at_call 45; refine (pnode_all b s i _ (PAt.drew (PAt.same hp.hc (((Kept.refl _ _).alloc _).alloc _)))).mono ?_; rintro e w3 ⟨rfl, hS3⟩; simp only [nodeV]; have hz := BAt.kept (BAt.drew (BAt.made' (w.alloc (.cells #[.int .i64 11, .int .i64 i, .int .i64 y, .int .i64 z] 34)) (w.heap.size + 1) (by simp) 56 #[.bool false, .int .i64 0, .int .i64 0, .bool false])) hS3 (fun h => h); have hzc := hz.cell; have hzf := hz.free))
    all_goals go_wp2_with fail
    all_goals go_meet
    all_goals first | exact ⟨_, rfl, rfl, (((hz.set 0 _).set 1 _).set 2 _).set 3 _, Kept.setCell (Kept.setCell (Kept.setCell (Kept.setCell (Kept.trans (Kept.drew (Kept.alloc (Kept.refl _ _) _)) hS3) _ (.inr (by simp)) _) _ (.inr (by simp)) _) _ (.inr (by simp)) _) _ (.inr (by simp)) _⟩ | exact ⟨_, rfl, rfl, BAt.made' _ _ rfl _ _, Kept.alloc (Kept.trans (Kept.drew (Kept.refl _ _)) hS3) _⟩
  case rest =>
    obtain ⟨ga, rfl, rfl, hga, hSc⟩ := hcut
    have hp1 := (hp.same ((Kept.refl _ _).alloc _)).same hSc
    have ho1 : BAt wc w.heap.size 34 #[.int .i64 11, .int .i64 i, .int .i64 y, .int .i64 z] := (BAt.made' _ _ rfl _ _).kept hSc (fun h => h)
    have hC := hp1.hp.cell
    have hl := hp1.hp.lt
    have hc0 : wc.cell? ⟨p, 0, none⟩ = some (.pointer (some ⟨b, 0, none⟩)) := hC 0
    have hc1 : wc.cell? ⟨p, 1, none⟩ = some (.pointer (some ⟨A.c, 0, none⟩)) := hC 1
    have ho := ho1.cell
    have hoA : wc.cell? ⟨w.heap.size, 1, none⟩ = some (.int .i64 i) := ho 1
    have hol := ho1.lt
    have hw1 : Same w wc := (Kept.alloc (Kept.refl _ _) _).trans hSc
    clear hC ho hSc
    go_wp2_with fail
    go_cut [10, 11] from 19 (fun x8 x9 wx => ∃ gb, x8 = .pointer (some ⟨gb, 0, none⟩) ∧ x9 = .int .i64 (nC i) ∧ BAt wx gb 56 #[.bool (nB i (s.up i.toNat)), .int .i64 (nI i (s.epoch i.toNat)), .int .i64 (nI i (s.til i.toNat)), .bool (nB i (s.alone i.toNat))] ∧ Same wc wx)
    case first =>
      go_region_with (first | (go_at_call 46; refine (rnode_all A s r i _ (RAt.drewN hp1.hr 1) hs).mono ?_; rintro e w3 ⟨rfl, hS3⟩; simp only [nodeV]) | (go_at_call 46; refine (rnode_all A s r i _ (RAt.drewN (RAt.same hp1.hr ((Kept.refl _ _).alloc _)) 1) hs).mono ?_; rintro e w3 ⟨rfl, hS3⟩; simp only [nodeV]; have hz := BAt.kept (BAt.drew (BAt.made' wc wc.heap.size rfl 56 #[.bool false, .int .i64 0, .int .i64 0, .bool false])) hS3 (fun h => h); have hzc := hz.cell; have hzf := hz.free))
      all_goals go_wp2_with fail
      all_goals go_meet
      all_goals first | exact ⟨_, rfl, rfl, (((hz.set 0 _).set 1 _).set 2 _).set 3 _, Kept.setCell (Kept.setCell (Kept.setCell (Kept.setCell (Kept.trans (Kept.drew (Kept.alloc (Kept.refl _ _) _)) hS3) _ (.inr (by simp)) _) _ (.inr (by simp)) _) _ (.inr (by simp)) _) _ (.inr (by simp)) _⟩ | exact ⟨_, rfl, rfl, BAt.made' _ _ rfl _ _, Kept.alloc (Kept.trans (Kept.drew (Kept.refl _ _)) hS3) _⟩
    case rest =>
      obtain ⟨gb, rfl, rfl, hgb, hSd⟩ := hcut
      have hga2 := hga.kept hSd (fun h => h)
      have hgac := hga2.cell
      have hgbc := hgb.cell
      go_wp2_with (go_at_call 47; refine (sameNode_any _ _ _ _ _).mono ?_; rintro e w4 ⟨rfl, hS4⟩)
      go_ret
      exact ⟨rfl, (hw1.trans hSd).trans hS4⟩

end Go.Proofs.YtpfahgogjeignaaGreatDoor

namespace Go.Proofs.YtpfahgogjeignaaGreatDoor
open Go.RowKit
attribute [local go_sem] fArr_get rg4

theorem quiet_more {P : Program} {f : FuncId} {args : Array Value} {W : World} {q x : Nat} {v : Value} (h : Calls P f args (W.drewN (q + x)) fun e w' => e = .returned v ∧ ∃ m, w' = (W.drewN (q + x)).drewN m) :
    Calls P f args (W.drewN (q + x)) fun e w'' => e = .returned v ∧ ∃ n, w'' = W.drewN (q + n) :=
  h.mono fun _ _ ⟨he, m, hm⟩ => ⟨he, x + m, by rw [hm, World.drewN_drewN, Nat.add_assoc]⟩

set_option maxRecDepth 100000 in
set_option maxHeartbeats 1000000 in
theorem tells_level (p b : Nat) (A : RA) (s : PC) (r : RS) (i k z : Int) (w : World) (hp : Pair w p b A s r) (hs : Sim s r) :
    Calls Tryz.prog 20 #[.pointer (some ⟨p, 0, none⟩), .agg #[.int .i64 12, .int .i64 i, .int .i64 k, .int .i64 z]] w fun e w' => e = .returned (.bool true) ∧ Same w w' := by
  have hl := hp.hp.lt
  have hc0 : w.cell? ⟨p, 0, none⟩ = some (.pointer (some ⟨b, 0, none⟩)) := hp.hp.cell 0
  have hc1 : w.cell? ⟨p, 1, none⟩ = some (.pointer (some ⟨A.c, 0, none⟩)) := hp.hp.cell 1
  have hp0 := hp.same ((Kept.refl _ _).alloc (.cells #[.int .i64 12, .int .i64 i, .int .i64 k, .int .i64 z] 34))
  have HC : ∀ q, Hid (Calls Tryz.prog 48 #[.pointer (some ⟨b, 0, none⟩), .int .i64 i, .int .i64 k] ((w.alloc (.cells #[.int .i64 12, .int .i64 i, .int .i64 k, .int .i64 z] 34)).drewN q) fun e' w' => e' = .returned (.tuple #[.int .i64 (tI s i k (s.lev i.toNat k.toNat)), .int .i64 (tI s i k (s.win i.toNat k.toNat)), .int .i64 (tC s i k)]) ∧ ∃ m, w' = ((w.alloc (.cells #[.int .i64 12, .int .i64 i, .int .i64 k, .int .i64 z] 34)).drewN q).drewN m) :=
    fun q => plevel_all b s i k _ (hp0.hc.drewN q) hs.ok
  have HR : ∀ q, Hid (Calls Tryz.prog 49 #[.pointer (some ⟨A.c, 0, none⟩), .int .i64 i, .int .i64 k] ((w.alloc (.cells #[.int .i64 12, .int .i64 i, .int .i64 k, .int .i64 z] 34)).drewN q) fun e' w' => e' = .returned (.tuple #[.int .i64 (tI s i k (s.lev i.toNat k.toNat)), .int .i64 (tI s i k (s.win i.toNat k.toNat)), .int .i64 (tC s i k)]) ∧ ∃ m, w' = ((w.alloc (.cells #[.int .i64 12, .int .i64 i, .int .i64 k, .int .i64 z] 34)).drewN q).drewN m) :=
    fun q => rlevel_all A s r i k _ (hp0.hr.drewN q) hs
  clear hp0
  go_enter Tryz.func20, Tryz.ntmps20
  go_wp2_with fail
  go_quiet ((go_at_call 48; exact Calls.quiet_of (HC _).out))
  go_wp2_with fail
  go_quiet ((go_at_call 49; exact quiet_more (HR _).out))
  go_wp2
  go_ret
  exact ⟨rfl, Kept.drewN (Kept.alloc (Kept.refl _ _) _) _⟩

set_option maxRecDepth 100000 in
set_option maxHeartbeats 1000000 in
theorem tells_time (p b : Nat) (A : RA) (s : PC) (r : RS) (x y z : Int) (w : World) (hp : Pair w p b A s r) (hs : Sim s r) :
    Calls Tryz.prog 20 #[.pointer (some ⟨p, 0, none⟩), .agg #[.int .i64 9, .int .i64 x, .int .i64 y, .int .i64 z]] w fun e w' => e = .returned (.bool true) ∧ Same w w' := by
  have hl := hp.hp.lt
  have hc0 : w.cell? ⟨p, 0, none⟩ = some (.pointer (some ⟨b, 0, none⟩)) := hp.hp.cell 0
  have hc1 : w.cell? ⟨p, 1, none⟩ = some (.pointer (some ⟨A.c, 0, none⟩)) := hp.hp.cell 1
  have hrl := hp.hr.c.lt
  have hr := hp.hr.c.cell
  have hn : (r.now == r.now) = true := by simp
  go_enter Tryz.func20, Tryz.ntmps20
  go_wp2_with (go_at_call 41; refine (time_any b s _ (hp.hc.same ((Kept.refl _ _).alloc _))).mono ?_; rw [hs.now]; rintro e w' ⟨rfl, rfl⟩)
  go_ret
  exact ⟨rfl, Kept.alloc (Kept.refl _ _) _⟩

set_option maxRecDepth 100000 in
set_option maxHeartbeats 1000000 in
theorem tells_witness (p b : Nat) (A : RA) (s : PC) (r : RS) (x y z : Int) (w : World) (hp : Pair w p b A s r) (hs : Sim s r) :
    Calls Tryz.prog 20 #[.pointer (some ⟨p, 0, none⟩), .agg #[.int .i64 10, .int .i64 x, .int .i64 y, .int .i64 z]] w fun e w' => e = .returned (.bool true) ∧ Same w w' := by
  have hl := hp.hp.lt
  have hc0 : w.cell? ⟨p, 0, none⟩ = some (.pointer (some ⟨b, 0, none⟩)) := hp.hp.cell 0
  have hc1 : w.cell? ⟨p, 1, none⟩ = some (.pointer (some ⟨A.c, 0, none⟩)) := hp.hp.cell 1
  go_enter Tryz.func20, Tryz.ntmps20
  go_wp2_with fail
  refine (witness_any b s _ (hp.hc.same ((Kept.refl _ _).alloc _))).mono ?_
  rintro e w3 ⟨rfl, hS3⟩
  have hp3 := (hp.same ((Kept.refl _ _).alloc _)).same hS3
  have hl3 := hp3.hp.lt
  have hc13 : w3.cell? ⟨p, 1, none⟩ = some (.pointer (some ⟨A.c, 0, none⟩)) := hp3.hp.cell 1
  go_wp2_with fail
  refine (rwitness_all A s r _ (by exact hp3.hr.same ((Kept.refl _ _).alloc _)) hs).mono ?_
  rintro e w4 ⟨rfl, hS4⟩
  have hz4 : BAt w4 w3.heap.size 62 #[.int .i64 s.holder, .int .i64 s.wepoch, .int .i64 s.wtil, .bool s.solo] := (BAt.made' _ _ rfl _ _).kept hS4 (fun h => h)
  have hz4c := hz4.cell
  have hz4l := hz4.lt
  go_wp2_with (go_at_call 44; refine (sameWitness_any _ _ _ _ _).mono ?_; rintro e w5 ⟨rfl, hS5⟩)
  go_ret
  exact ⟨rfl, ((((Kept.alloc (Kept.refl _ _) _).trans hS3).alloc _).trans hS4).trans (Kept.trans (Kept.alloc (Kept.refl _ _) _) hS5)⟩

set_option maxRecDepth 100000 in
set_option maxHeartbeats 1000000 in
theorem tells_other (p : Nat) (k x y z : Int) (w : World) (h9 : k ≠ 9) (h10 : k ≠ 10) (h11 : k ≠ 11) (h12 : k ≠ 12) :
    Calls Tryz.prog 20 #[.pointer (some ⟨p, 0, none⟩), .agg #[.int .i64 k, .int .i64 x, .int .i64 y, .int .i64 z]] w fun e w' => e = .returned (.bool true) ∧ Same w w' := by
  have e9 : (k == 9) = false := by simp [h9]
  have e10 : (k == 10) = false := by simp [h10]
  have e11 : (k == 11) = false := by simp [h11]
  have e12 : (k == 12) = false := by simp [h12]
  go_enter Tryz.func20, Tryz.ntmps20
  go_wp2
  go_ret
  exact ⟨rfl, Kept.alloc (Kept.refl _ _) _⟩

end Go.Proofs.YtpfahgogjeignaaGreatDoor

namespace Go.Proofs.YtpfahgogjeignaaGreatDoor
open Go.RowKit

theorem tells_all (p b : Nat) (A : RA) (s : PC) (r : RS) (k x y z : Int) (w : World) (hp : Pair w p b A s r) (hs : Sim s r) :
    Calls Tryz.prog 20 #[.pointer (some ⟨p, 0, none⟩), .agg #[.int .i64 k, .int .i64 x, .int .i64 y, .int .i64 z]] w fun e w' => e = .returned (.bool true) ∧ Same w w' := by
  by_cases h9 : k = 9
  · subst h9; exact tells_time p b A s r x y z w hp hs
  by_cases h10 : k = 10
  · subst h10; exact tells_witness p b A s r x y z w hp hs
  by_cases h11 : k = 11
  · subst h11; exact tells_node p b A s r x y z w hp hs
  by_cases h12 : k = 12
  · subst h12; exact tells_level p b A s r x y z w hp hs
  exact tells_other p k x y z w h9 h10 h11 h12

set_option maxRecDepth 100000 in
set_option maxHeartbeats 1000000 in
theorem step_tells (p b : Nat) (A : RA) (s : PC) (r : RS) (k x y z : Int) (hk : 9 ≤ k) (hk2 : k ≤ 12) (w : World) (hp : Pair w p b A s r) (hs : Sim s r) :
    Calls Tryz.prog 13 #[.pointer (some ⟨p, 0, none⟩), .agg #[.int .i64 k, .int .i64 x, .int .i64 y, .int .i64 z]] w fun e w' => e = .returned (.bool true) ∧ Same w w' := by
  rcases (by omega : k = 9 ∨ k = 10 ∨ k = 11 ∨ k = 12) with rfl | rfl | rfl | rfl
  all_goals
    go_enter Tryz.func13, Tryz.ntmps13
    go_wp2_with (go_at_call 20; refine (tells_all p b A s r _ x y z _ (hp.same ((Kept.refl _ _).alloc _)) hs).mono ?_; rintro e w3 ⟨rfl, hS3⟩)
    go_ret
    exact ⟨rfl, (Kept.alloc (Kept.refl _ _) _).trans hS3⟩

theorem fresh_level (le wi : Int) (n : Nat) (R B : Nat → Int) (i k : Nat) : (RS.fresh le wi n R B).level i k = (RS.fresh le wi n R B).room k := by
  show RS.grown _ k ((RS.fresh le wi n R B).room k) (0 - 0) = _
  unfold RS.grown
  rw [Int.sub_zero, Int.mul_zero, Int.add_zero, if_neg (by omega)]

theorem rfresh_ok {le wi : Int} {n : Nat} {R B : Nat → Int} (g : Good le wi n R B) : (RS.fresh le wi n R B).Ok := by
  obtain ⟨l0, l1, ⟨n0, n4, hall⟩, ⟨w0, wall⟩⟩ := g
  have w1 := wall 0 (by omega)
  obtain ⟨_, _, _, b1⟩ := hall 0 (by omega)
  refine ⟨l0, l1, w0, ?_, ?_, n4, ?_, ?_, ?_, ?_, ?_, ?_, ?_⟩
  · show wi ≤ 1000000; omega
  · show 1 ≤ n; omega
  · intro k; simp only [RS.fresh]; split
    · rename_i hk; exact (hall k hk).1
    · omega
  · intro k; simp only [RS.fresh]; split
    · rename_i hk; exact (hall k hk).2.1
    · omega
  · intro k; simp only [RS.fresh]; split
    · rename_i hk; have := wall k hk; omega
    · omega
  · intro k; simp only [RS.fresh]; split
    · rename_i hk; have := (hall k hk).2.2.2; omega
    · omega
  · show (0 : Int) ≤ 0; omega
  · show (0 : Int) ≤ 1000000000000; omega
  · intro i k _ _
    show (0 : Int) ≤ 0
    omega

theorem sim_fresh {le wi : Int} {n : Nat} {R B : Nat → Int} (g : Good le wi n R B) : Sim (PC.fresh le wi n R B n 2 (-1)) (RS.fresh le wi n R B) := by
  refine ⟨fresh_ok g.l0 g.l1 g.ten g.win 2 (-1), rfresh_ok g, rfl, rfl, rfl, rfl, fun k hk => rfl, fun k hk => ?_, fun j _ => rfl, fun i hi => ?_, fun i _ => rfl, fun i _ => rfl, fun i _ => rfl, fun i k hi hk => ?_, fun i k _ _ => rfl, rfl, rfl, rfl, rfl⟩
  · have hk' : k < n := hk
    simp only [PC.fresh, RS.fresh]
    rw [if_pos hk', if_pos hk']
  · simp only [PC.fresh, RS.fresh]
    simpa using hi
  · rw [fresh_level]
    simp only [PC.fresh, RS.fresh]
    rw [if_pos hi]

end Go.Proofs.YtpfahgogjeignaaGreatDoor
