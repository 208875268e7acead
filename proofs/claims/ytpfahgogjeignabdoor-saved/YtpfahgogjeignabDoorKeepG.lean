/-
  The keeper's called: the questions.
-/
import Derived.Test.YtpfahgogjeignabDoorKeepF
set_option linter.unusedVariables false
set_option linter.unusedSimpArgs false
namespace Go.Proofs.YtpfahgogjeignabDoor
open Go.RowKit
attribute [local go_sem ↓] Go.wp_at_zero Go.wp_at_succ

set_option maxRecDepth 100000 in
set_option maxHeartbeats 1000000 in
theorem called_time (b : Nat) (s s' : PC) (x y z v : Int) (hd : PDoes 30 [] b s s' (.int .i64 v)) (w : World) (h : PAt w b s) :
    Calls Tryd.prog 8 #[.pointer (some ⟨b, 0, none⟩), .agg #[.int .i64 9, .int .i64 x, .int .i64 y, .int .i64 z]] w fun e w' => e = .returned (SaidR.v ⟨v, 0, 0, 0, 0⟩) ∧ PAt w' b s' ∧ Wrote b w w' := by
  have hl := h.lt
  have h3' : ∀ o1 o2 o3, PAt (((w.alloc o1).alloc o2).alloc o3) b s := fun o1 o2 o3 => ((BAt.alloc (BAt.alloc (BAt.alloc h _) _) _))
  have H3 : Hid (∀ o1 o2 o3, PAt (((w.alloc o1).alloc o2).alloc o3) b s) := h3'
  have HD : Hid (PDoes 30 [] b s s' (.int .i64 v)) := hd
  clear hd h3'
  go_enter Tryd.func8, Tryd.ntmps8
  go_wp2_with fail
  refine (HD.out _ (H3.out _ _ _)).mono ?_
  rintro e w4 ⟨rfl, hp4, hk4⟩
  obtain ⟨s1, s2, hk⟩ := said_kept _ hl hk4
  have c1 := s1.cell
  have c2 := s2.cell
  have f1 := s1.free
  have f2 := s2.free
  clear hk4
  go_wp2_with fail
  refine called_back _ (w.heap.size + 1) ⟨v, 0, 0, 0, 0⟩ _ ?_ rfl rfl ⟨rfl, ?_, ?_⟩
  · refine BAt.as (arr := (((((#[.int .i64 0, .int .i64 0, .int .i64 0, .int .i64 0, .int .i64 0] : Array Value).setIfInBounds 0 (.int .i64 (⟨v, 0, 0, 0, 0⟩ : SaidR).a)).setIfInBounds 1 (.int .i64 (⟨v, 0, 0, 0, 0⟩ : SaidR).b)).setIfInBounds 2 (.int .i64 (⟨v, 0, 0, 0, 0⟩ : SaidR).c)).setIfInBounds 3 (.int .i64 (⟨v, 0, 0, 0, 0⟩ : SaidR).d)).setIfInBounds 4 (.int .i64 (⟨v, 0, 0, 0, 0⟩ : SaidR).e)) ?_ rfl
    repeat (with_reducible first | refine BAt.drew ?_ | refine BAt.drewN ?_ _ | refine BAt.set ?_ _ _ | refine BAt.alloc ?_ _ | refine BAt.far ?_ _ (by first | (simp; done) | (simp; omega)) _ | exact s1)
  · repeat (with_reducible first | refine PAt.drew ?_ | refine PAt.drewN ?_ _ | refine PAt.far ?_ _ (by simp; omega) _ | refine BAt.alloc ?_ _ | exact hp4)
  · repeat (with_reducible first | refine Kept.drew ?_ | refine Kept.drewN ?_ _ | refine Kept.alloc ?_ _ | refine Kept.setCell ?_ _ (.inr (by first | (simp; done) | (simp; omega))) _ | exact hk)

theorem cell_drew_at (X : World) (g : Nat) (hg : X.heap.size = g) (arr : Array Value) (t : TypeId) (o : Nat) (v : Value) (h : arr[o]? = some v) : ((X.alloc (.cells arr t)).drew).cell? ⟨g, o, none⟩ = some v := by
  have := BAt.made' X g hg.symm t arr
  rw [← h]
  exact this.cell o
theorem PAt.alloc {w : World} {b : Nat} {s : PC} (h : PAt w b s) (o : Obj) : PAt (w.alloc o) b s := BAt.alloc h o

set_option maxRecDepth 100000 in
set_option maxHeartbeats 2000000 in
theorem called_witness (b : Nat) (s s' : PC) (x y z : Int) (ho we wt : Int) (so : Bool) (hd : PDoes 31 [] b s s' (.agg #[.int .i64 ho, .int .i64 we, .int .i64 wt, .bool so])) (w : World) (h : PAt w b s) :
    Calls Tryd.prog 8 #[.pointer (some ⟨b, 0, none⟩), .agg #[.int .i64 10, .int .i64 x, .int .i64 y, .int .i64 z]] w fun e w' => e = .returned (SaidR.v ⟨ho, we, wt, truthI so, 0⟩) ∧ PAt w' b s' ∧ Wrote b w w' := by
  have hl := h.lt
  have h3' : ∀ o1 o2 o3, PAt (((w.alloc o1).alloc o2).alloc o3) b s := fun o1 o2 o3 => ((BAt.alloc (BAt.alloc (BAt.alloc h _) _) _))
  have H3 : Hid (∀ o1 o2 o3, PAt (((w.alloc o1).alloc o2).alloc o3) b s) := h3'
  have HD : Hid (PDoes 31 [] b s s' (.agg #[.int .i64 ho, .int .i64 we, .int .i64 wt, .bool so])) := hd
  clear hd h3'
  go_enter Tryd.func8, Tryd.ntmps8
  go_wp2_with fail
  refine (HD.out _ (H3.out _ _ _)).mono ?_
  rintro e w4 ⟨rfl, hp4, hk4⟩
  obtain ⟨s1, s2, hk⟩ := said_kept _ hl hk4
  have c1 := s1.cell
  have c2 := s2.cell
  have f1 := s1.free
  have f2 := s2.free
  have l1 := s1.lt
  have l2 := s2.lt
  clear hk4
  go_wp2_with fail
  have tw := BAt.made' w4 w4.heap.size rfl 66 #[.int .i64 ho, .int .i64 we, .int .i64 wt, .bool so]
  have s1 := s1.alloc (.cells #[.int .i64 ho, .int .i64 we, .int .i64 wt, .bool so] 66)
  have s2 := s2.alloc (.cells #[.int .i64 ho, .int .i64 we, .int .i64 wt, .bool so] 66)
  have hp4 := PAt.alloc hp4 (.cells #[.int .i64 ho, .int .i64 we, .int .i64 wt, .bool so] 66)
  have hk := Kept.alloc hk (.cells #[.int .i64 ho, .int .i64 we, .int .i64 wt, .bool so] 66)
  clear c1 c2 f1 f2
  generalize w4.alloc (.cells #[.int .i64 ho, .int .i64 we, .int .i64 wt, .bool so] 66) = W5 at *
  generalize w4.heap.size = gW at *
  have c1 := s1.cell
  have c2 := s2.cell
  have f1 := s1.free
  have f2 := s2.free
  have cw := tw.cell
  have d0 := cw 0
  have d1 := cw 1
  have d2 := cw 2
  have d3 := cw 3
  have ne1 : ¬ gW = w.heap.size + 1 := by omega
  have ne2 : ¬ gW = w.heap.size + 1 + 1 := by omega
  have ne3 : ¬ w.heap.size + 1 + 1 = gW := by omega
  clear cw
  go_region_held3 (fun w' => w'.cell? ⟨gW, 0, none⟩ = some (.int .i64 ho) ∧ w'.cell? ⟨gW, 1, none⟩ = some (.int .i64 we) ∧ w'.cell? ⟨gW, 2, none⟩ = some (.int .i64 wt) ∧ w'.cell? ⟨gW, 3, none⟩ = some (.bool so)) (go_keep) (first | (go_at_call 32; refine (truth_any so _).mono ?_; rintro e w5 ⟨rfl, rfl⟩))
  all_goals go_wp2_with fail
  all_goals
    refine called_back _ (w.heap.size + 1) ⟨ho, we, wt, truthI so, 0⟩ _ ?_ rfl rfl ⟨rfl, ?_, ?_⟩
    · refine BAt.as (arr := (((((#[.int .i64 0, .int .i64 0, .int .i64 0, .int .i64 0, .int .i64 0] : Array Value).setIfInBounds 0 (.int .i64 (⟨ho, we, wt, truthI so, 0⟩ : SaidR).a)).setIfInBounds 1 (.int .i64 (⟨ho, we, wt, truthI so, 0⟩ : SaidR).b)).setIfInBounds 2 (.int .i64 (⟨ho, we, wt, truthI so, 0⟩ : SaidR).c)).setIfInBounds 3 (.int .i64 (⟨ho, we, wt, truthI so, 0⟩ : SaidR).d)).setIfInBounds 4 (.int .i64 (⟨ho, we, wt, truthI so, 0⟩ : SaidR).e)) ?_ rfl
      repeat (with_reducible first | refine BAt.drew ?_ | refine BAt.drewN ?_ _ | refine BAt.set ?_ _ _ | refine BAt.alloc ?_ _ | refine BAt.far ?_ _ (by first | (simp; done) | (simp; omega)) _ | exact s1)
    · repeat (with_reducible first | refine PAt.drew ?_ | refine PAt.drewN ?_ _ | refine PAt.far ?_ _ (by simp; omega) _ | refine PAt.alloc ?_ _ | exact hp4)
    · repeat (with_reducible first | refine Kept.drew ?_ | refine Kept.drewN ?_ _ | refine Kept.alloc ?_ _ | refine Kept.setCell ?_ _ (.inr (by first | (simp; done) | (simp; omega))) _ | exact hk)

set_option maxRecDepth 100000 in
set_option maxHeartbeats 2000000 in
theorem called_node (b : Nat) (s s' : PC) (x y z : Int) (u : Bool) (ep ti : Int) (al : Bool) (c : Int) (hd : PDoes 33 [.int .i64 x] b s s' (.tuple #[.agg #[.bool u, .int .i64 ep, .int .i64 ti, .bool al], .int .i64 c])) (w : World) (h : PAt w b s) :
    Calls Tryd.prog 8 #[.pointer (some ⟨b, 0, none⟩), .agg #[.int .i64 11, .int .i64 x, .int .i64 y, .int .i64 z]] w fun e w' => e = .returned (SaidR.v ⟨truthI u, ep, ti, truthI al, c⟩) ∧ PAt w' b s' ∧ Wrote b w w' := by
  have hl := h.lt
  have h3' : ∀ o1 o2 o3, PAt (((w.alloc o1).alloc o2).alloc o3) b s := fun o1 o2 o3 => ((BAt.alloc (BAt.alloc (BAt.alloc h _) _) _))
  have H3 : Hid (∀ o1 o2 o3, PAt (((w.alloc o1).alloc o2).alloc o3) b s) := h3'
  have HD : Hid (PDoes 33 [.int .i64 x] b s s' (.tuple #[.agg #[.bool u, .int .i64 ep, .int .i64 ti, .bool al], .int .i64 c])) := hd
  clear hd h3'
  go_enter Tryd.func8, Tryd.ntmps8
  go_wp2_with fail
  refine (HD.out _ (H3.out _ _ _)).mono ?_
  rintro e w4 ⟨rfl, hp4, hk4⟩
  obtain ⟨s1, s2, hk⟩ := said_kept _ hl hk4
  have c1 := s1.cell
  have c2 := s2.cell
  have f1 := s1.free
  have f2 := s2.free
  have l1 := s1.lt
  have l2 := s2.lt
  clear hk4
  go_wp2_with fail
  have tw := BAt.made' w4 w4.heap.size rfl 60 #[.bool u, .int .i64 ep, .int .i64 ti, .bool al]
  have s1 := s1.alloc (.cells #[.bool u, .int .i64 ep, .int .i64 ti, .bool al] 60)
  have s2 := s2.alloc (.cells #[.bool u, .int .i64 ep, .int .i64 ti, .bool al] 60)
  have hp4 := PAt.alloc hp4 (.cells #[.bool u, .int .i64 ep, .int .i64 ti, .bool al] 60)
  have hk := Kept.alloc hk (.cells #[.bool u, .int .i64 ep, .int .i64 ti, .bool al] 60)
  clear c1 c2 f1 f2
  generalize w4.alloc (.cells #[.bool u, .int .i64 ep, .int .i64 ti, .bool al] 60) = W5 at *
  generalize w4.heap.size = gW at *
  have c1 := s1.cell
  have c2 := s2.cell
  have f1 := s1.free
  have f2 := s2.free
  have cw := tw.cell
  have d0 := cw 0
  have d1 := cw 1
  have d2 := cw 2
  have d3 := cw 3
  have ne1 : ¬ gW = w.heap.size + 1 := by omega
  have ne2 : ¬ gW = w.heap.size + 1 + 1 := by omega
  have ne3 : ¬ w.heap.size + 1 + 1 = gW := by omega
  clear cw
  go_region_held3 (fun w' => w'.cell? ⟨gW, 0, none⟩ = some (.bool u) ∧ w'.cell? ⟨gW, 1, none⟩ = some (.int .i64 ep) ∧ w'.cell? ⟨gW, 2, none⟩ = some (.int .i64 ti) ∧ w'.cell? ⟨gW, 3, none⟩ = some (.bool al)) (go_keep) (first | (go_at_call 32; refine (truth_any _ _).mono ?_; rintro e w5 ⟨rfl, rfl⟩))
  all_goals go_wp2_with fail
  all_goals
    refine called_back _ (w.heap.size + 1) ⟨truthI u, ep, ti, truthI al, c⟩ _ ?_ rfl rfl ⟨rfl, ?_, ?_⟩
    · refine BAt.as (arr := (((((#[.int .i64 0, .int .i64 0, .int .i64 0, .int .i64 0, .int .i64 0] : Array Value).setIfInBounds 0 (.int .i64 (⟨truthI u, ep, ti, truthI al, c⟩ : SaidR).a)).setIfInBounds 1 (.int .i64 (⟨truthI u, ep, ti, truthI al, c⟩ : SaidR).b)).setIfInBounds 2 (.int .i64 (⟨truthI u, ep, ti, truthI al, c⟩ : SaidR).c)).setIfInBounds 3 (.int .i64 (⟨truthI u, ep, ti, truthI al, c⟩ : SaidR).d)).setIfInBounds 4 (.int .i64 (⟨truthI u, ep, ti, truthI al, c⟩ : SaidR).e)) ?_ rfl
      repeat (with_reducible first | refine BAt.drew ?_ | refine BAt.drewN ?_ _ | refine BAt.set ?_ _ _ | refine BAt.alloc ?_ _ | refine BAt.far ?_ _ (by first | (simp; done) | (simp; omega)) _ | exact s1)
    · repeat (with_reducible first | refine PAt.drew ?_ | refine PAt.drewN ?_ _ | refine PAt.far ?_ _ (by simp; omega) _ | refine PAt.alloc ?_ _ | exact hp4)
    · repeat (with_reducible first | refine Kept.drew ?_ | refine Kept.drewN ?_ _ | refine Kept.alloc ?_ _ | refine Kept.setCell ?_ _ (.inr (by first | (simp; done) | (simp; omega))) _ | exact hk)

end Go.Proofs.YtpfahgogjeignabDoor
