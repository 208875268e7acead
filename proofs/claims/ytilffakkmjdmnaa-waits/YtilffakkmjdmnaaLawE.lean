/-
  tells: always true.
-/
import Derived.Test.YtilffakkmjdmnaaLawD
set_option linter.unusedVariables false
set_option linter.unusedSimpArgs false
namespace Go.Proofs.Ytilffakkmjdmnaa
open Go.RowKit
attribute [local go_sem] fArr_get
attribute [local go_sem ↓] Go.wp_at_zero Go.wp_at_succ

set_option maxRecDepth 100000 in
set_option maxHeartbeats 1000000 in
theorem tells_node (p b : Nat) (A : RA) (s : PC) (r : RS) (i y z : Int) (w : World) (hp : Pair w p b A s r) (hs : Sim s r) :
    Calls Try.prog 37 #[.pointer (some ⟨p, 0, none⟩), .agg #[.int .i64 11, .int .i64 i, .int .i64 y, .int .i64 z]] w fun e w' => e = .returned (.bool true) ∧ Same w w' := by
  have hC := hp.hp.cell
  have hl := hp.hp.lt
  have g0 : (#[Value.pointer (some ⟨b, 0, none⟩), Value.pointer (some ⟨A.c, 0, none⟩)] : Array Value)[0]? = some (.pointer (some ⟨b, 0, none⟩)) := rfl
  have g1 : (#[Value.pointer (some ⟨b, 0, none⟩), Value.pointer (some ⟨A.c, 0, none⟩)] : Array Value)[1]? = some (.pointer (some ⟨A.c, 0, none⟩)) := rfl
  have hc0 : w.cell? ⟨p, 0, none⟩ = some (.pointer (some ⟨b, 0, none⟩)) := hC 0
  have hc1 : w.cell? ⟨p, 1, none⟩ = some (.pointer (some ⟨A.c, 0, none⟩)) := hC 1
  clear hC g0 g1
  go_enter Try.func37, Try.ntmps37
  go_wp2_with fail
  go_cut [8, 9] from 19 (fun x8 x9 wx => ∃ ga, x8 = .pointer (some ⟨ga, 0, none⟩) ∧ x9 = .int .i64 (nC i) ∧ BAt wx ga 61 #[.bool (nB i (s.up i.toNat)), .int .i64 (nI i (s.epoch i.toNat)), .int .i64 (nI i (s.til i.toNat)), .bool (nB i (s.alone i.toNat))] ∧ Same (w.alloc (.cells #[.int .i64 11, .int .i64 i, .int .i64 y, .int .i64 z] 30)) wx)
  case first =>
    go_region_with (first | (go_at_call 23; refine (pnode_all b s i _ (PAt.drew (PAt.same hp.hc ((Kept.refl _ _).alloc _)))).mono ?_; rintro e w3 ⟨rfl, hS3⟩; simp only [nodeV]) | (go_at_call 23; refine (pnode_all b s i _ (PAt.drew (PAt.same hp.hc (((Kept.refl _ _).alloc _).alloc _)))).mono ?_; rintro e w3 ⟨rfl, hS3⟩; simp only [nodeV]; have hz := BAt.kept (BAt.drew (BAt.made' (w.alloc (.cells #[.int .i64 11, .int .i64 i, .int .i64 y, .int .i64 z] 30)) (w.heap.size + 1) (by simp) 61 #[.bool false, .int .i64 0, .int .i64 0, .bool false])) hS3 (fun h => h); have hzc := hz.cell; have hzf := hz.free))
    all_goals go_wp2_with fail
    all_goals go_meet
    all_goals first | exact ⟨_, rfl, rfl, (((hz.set 0 _).set 1 _).set 2 _).set 3 _, Kept.setCell (Kept.setCell (Kept.setCell (Kept.setCell (Kept.trans (Kept.drew (Kept.alloc (Kept.refl _ _) _)) hS3) _ (.inr (by simp)) _) _ (.inr (by simp)) _) _ (.inr (by simp)) _) _ (.inr (by simp)) _⟩ | exact ⟨_, rfl, rfl, BAt.made' _ _ rfl _ _, Kept.alloc (Kept.trans (Kept.drew (Kept.refl _ _)) hS3) _⟩
  case rest =>
    obtain ⟨ga, rfl, rfl, hga, hSc⟩ := hcut
    have hp1 := (hp.same ((Kept.refl _ _).alloc _)).same hSc
    have ho1 : BAt wc w.heap.size 30 #[.int .i64 11, .int .i64 i, .int .i64 y, .int .i64 z] := (BAt.made' _ _ rfl _ _).kept hSc (fun h => h)
    have hC := hp1.hp.cell
    have hl := hp1.hp.lt
    have hc0 : wc.cell? ⟨p, 0, none⟩ = some (.pointer (some ⟨b, 0, none⟩)) := hC 0
    have hc1 : wc.cell? ⟨p, 1, none⟩ = some (.pointer (some ⟨A.c, 0, none⟩)) := hC 1
    have ho := ho1.cell
    have hoA : wc.cell? ⟨w.heap.size, 1, none⟩ = some (.int .i64 i) := ho 1
    have hol := ho1.lt
    have hw1 : Same w wc := (Kept.alloc (Kept.refl _ _) _).trans hSc
    clear hC ho hSc
    go_wp2_with fail
    go_cut [10, 11] from 19 (fun x8 x9 wx => ∃ gb, x8 = .pointer (some ⟨gb, 0, none⟩) ∧ x9 = .int .i64 (nC i) ∧ BAt wx gb 61 #[.bool (nB i (s.up i.toNat)), .int .i64 (nI i (s.epoch i.toNat)), .int .i64 (nI i (s.til i.toNat)), .bool (nB i (s.alone i.toNat))] ∧ Same wc wx)
    case first =>
      go_region_with (first | (go_at_call 80; refine (rnode_all A s r i _ (RAt.drewN hp1.hr 1) hs).mono ?_; rintro e w3 ⟨rfl, hS3⟩; simp only [nodeV]) | (go_at_call 80; refine (rnode_all A s r i _ (RAt.drewN (RAt.same hp1.hr ((Kept.refl _ _).alloc _)) 1) hs).mono ?_; rintro e w3 ⟨rfl, hS3⟩; simp only [nodeV]; have hz := BAt.kept (BAt.drew (BAt.made' wc wc.heap.size rfl 61 #[.bool false, .int .i64 0, .int .i64 0, .bool false])) hS3 (fun h => h); have hzc := hz.cell; have hzf := hz.free))
      all_goals go_wp2_with fail
      all_goals go_meet
      all_goals first | exact ⟨_, rfl, rfl, (((hz.set 0 _).set 1 _).set 2 _).set 3 _, Kept.setCell (Kept.setCell (Kept.setCell (Kept.setCell (Kept.trans (Kept.drew (Kept.alloc (Kept.refl _ _) _)) hS3) _ (.inr (by simp)) _) _ (.inr (by simp)) _) _ (.inr (by simp)) _) _ (.inr (by simp)) _⟩ | exact ⟨_, rfl, rfl, BAt.made' _ _ rfl _ _, Kept.alloc (Kept.trans (Kept.drew (Kept.refl _ _)) hS3) _⟩
    case rest =>
      obtain ⟨gb, rfl, rfl, hgb, hSd⟩ := hcut
      have hga2 := hga.kept hSd (fun h => h)
      have hgac := hga2.cell
      have hgbc := hgb.cell
      go_wp2_with (go_at_call 81; refine (sameNode_any _ _ _ _ _).mono ?_; rintro e w4 ⟨rfl, hS4⟩)
      go_ret
      exact ⟨rfl, (hw1.trans hSd).trans hS4⟩

end Go.Proofs.Ytilffakkmjdmnaa
