/-
  The keeper's called: one step on a cluster.
-/
import Derived.Test.YtpfahgogjeignabDoorKeepE
import Derived.Test.YtpfahgogjeignabDoorPlain
set_option linter.unusedVariables false
set_option linter.unusedSimpArgs false
namespace Go.Proofs.YtpfahgogjeignabDoor
open Go.RowKit
attribute [local go_sem ↓] Go.wp_at_zero Go.wp_at_succ

theorem said_kept {w w4 : World} {b : Nat} (o1 : Obj) (hb : b < w.heap.size) (k : Wrote b (((w.alloc o1).alloc (.cells #[.int .i64 0, .int .i64 0, .int .i64 0, .int .i64 0, .int .i64 0] 35)).alloc (.cells #[.int .i64 0, .int .i64 0, .int .i64 0, .int .i64 0, .int .i64 0] 35)) w4) :
    BAt w4 (w.heap.size + 1) 35 #[.int .i64 0, .int .i64 0, .int .i64 0, .int .i64 0, .int .i64 0] ∧ BAt w4 (w.heap.size + 1 + 1) 35 #[.int .i64 0, .int .i64 0, .int .i64 0, .int .i64 0, .int .i64 0] ∧ Wrote b w w4 := by
  refine ⟨BAt.kept ((BAt.made' _ _ (by simp) _ _).alloc _) k (by omega), BAt.kept (BAt.made' _ _ (by simp) _ _) k (by omega), ?_⟩
  exact Kept.trans (Kept.alloc (Kept.alloc (Kept.alloc (Kept.refl _ _) _) _) _) k

def SaidR.arr (x : SaidR) : Array Value := #[.int .i64 x.a, .int .i64 x.b, .int .i64 x.c, .int .i64 x.d, .int .i64 x.e]
theorem sa0 (x : SaidR) : x.arr[0]? = some (.int .i64 x.a) := rfl
theorem sa1 (x : SaidR) : x.arr[1]? = some (.int .i64 x.b) := rfl
theorem sa2 (x : SaidR) : x.arr[2]? = some (.int .i64 x.c) := rfl
theorem sa3 (x : SaidR) : x.arr[3]? = some (.int .i64 x.d) := rfl
theorem sa4 (x : SaidR) : x.arr[4]? = some (.int .i64 x.e) := rfl

set_option maxHeartbeats 1000000 in
/-- At the return: the answer is read out of its cells. -/
theorem called_back {Q : Ending → World → Prop} (W : World) (g : Nat) (x : SaidR) (a : Act) (hb : BAt W g 35 x.arr) (ha : a.tmps[4]?.getD undef = .pointer (some ⟨g, 0, none⟩)) (hd : a.defers = []) (hQ : Q (.returned x.v) W) : bodyPost Tryd.prog Tryd.f8 Q Exit.ret a W := by
  have hc := hb.cell
  refine bodyPost_ret (v := x.v) ?_ hd hQ
  simp [results, Tryd.results8, go_sem, hc, ha, sa0, sa1, sa2, sa3, sa4, SaidR.v]

theorem BAt.as {w : World} {g : Nat} {ty : TypeId} {arr arr' : Array Value} (h : BAt w g ty arr) (e : arr = arr') : BAt w g ty arr' := by rw [← e]; exact h

set_option maxRecDepth 100000 in
set_option maxHeartbeats 1000000 in
theorem called_pass (b : Nat) (s s' : PC) (x y z v : Int) (hd : PDoes 22 [.int .i64 x] b s s' (.int .i64 v)) (w : World) (h : PAt w b s) :
    Calls Tryd.prog 8 #[.pointer (some ⟨b, 0, none⟩), .agg #[.int .i64 1, .int .i64 x, .int .i64 y, .int .i64 z]] w fun e w' => e = .returned (SaidR.v ⟨0, 0, 0, 0, v⟩) ∧ PAt w' b s' ∧ Wrote b w w' := by
  have hl := h.lt
  have h3' : ∀ o1 o2 o3, PAt (((w.alloc o1).alloc o2).alloc o3) b s := fun o1 o2 o3 => ((BAt.alloc (BAt.alloc (BAt.alloc h _) _) _))
  have H3 : Hid (∀ o1 o2 o3, PAt (((w.alloc o1).alloc o2).alloc o3) b s) := h3'
  have HD : Hid (PDoes 22 [.int .i64 x] b s s' (.int .i64 v)) := hd
  clear hd h3'
  go_enter Tryd.func8, Tryd.ntmps8
  go_wp2_with fail
  refine (HD.out _ (H3.out _ _ _)).mono ?_
  rintro e w4 ⟨rfl, hp4, hk4⟩
  obtain ⟨s1, s2, hk⟩ := said_kept _ hl hk4
  have c1 := s1.cell
  have c2 := s2.cell
  have f1 := s1.free
  have f2 := s2.free
  clear hk4
  go_wp2_with fail
  refine called_back _ (w.heap.size + 1) ⟨0, 0, 0, 0, v⟩ _ ?_ rfl rfl ⟨rfl, ?_, ?_⟩
  · refine BAt.as (arr := (((((#[.int .i64 0, .int .i64 0, .int .i64 0, .int .i64 0, .int .i64 0] : Array Value).setIfInBounds 0 (.int .i64 (⟨0, 0, 0, 0, v⟩ : SaidR).a)).setIfInBounds 1 (.int .i64 (⟨0, 0, 0, 0, v⟩ : SaidR).b)).setIfInBounds 2 (.int .i64 (⟨0, 0, 0, 0, v⟩ : SaidR).c)).setIfInBounds 3 (.int .i64 (⟨0, 0, 0, 0, v⟩ : SaidR).d)).setIfInBounds 4 (.int .i64 (⟨0, 0, 0, 0, v⟩ : SaidR).e)) ?_ rfl
    repeat (with_reducible first | refine BAt.drew ?_ | refine BAt.drewN ?_ _ | refine BAt.set ?_ _ _ | refine BAt.alloc ?_ _ | refine BAt.far ?_ _ (by first | (simp; done) | (simp; omega)) _ | exact s1)
  · repeat (with_reducible first | refine PAt.drew ?_ | refine PAt.drewN ?_ _ | refine PAt.far ?_ _ (by simp; omega) _ | refine BAt.alloc ?_ _ | exact hp4)
  · repeat (with_reducible first | refine Kept.drew ?_ | refine Kept.drewN ?_ _ | refine Kept.alloc ?_ _ | refine Kept.setCell ?_ _ (.inr (by first | (simp; done) | (simp; omega))) _ | exact hk)

set_option maxRecDepth 100000 in
set_option maxHeartbeats 1000000 in
theorem called_link (b : Nat) (s s' : PC) (x y z v : Int) (hd : PDoes 23 [.int .i64 x, .int .i64 y, .int .i64 z] b s s' (.int .i64 v)) (w : World) (h : PAt w b s) :
    Calls Tryd.prog 8 #[.pointer (some ⟨b, 0, none⟩), .agg #[.int .i64 2, .int .i64 x, .int .i64 y, .int .i64 z]] w fun e w' => e = .returned (SaidR.v ⟨0, 0, 0, 0, v⟩) ∧ PAt w' b s' ∧ Wrote b w w' := by
  have hl := h.lt
  have h3' : ∀ o1 o2 o3, PAt (((w.alloc o1).alloc o2).alloc o3) b s := fun o1 o2 o3 => ((BAt.alloc (BAt.alloc (BAt.alloc h _) _) _))
  have H3 : Hid (∀ o1 o2 o3, PAt (((w.alloc o1).alloc o2).alloc o3) b s) := h3'
  have HD : Hid (PDoes 23 [.int .i64 x, .int .i64 y, .int .i64 z] b s s' (.int .i64 v)) := hd
  clear hd h3'
  go_enter Tryd.func8, Tryd.ntmps8
  go_wp2_with fail
  refine (HD.out _ (H3.out _ _ _)).mono ?_
  rintro e w4 ⟨rfl, hp4, hk4⟩
  obtain ⟨s1, s2, hk⟩ := said_kept _ hl hk4
  have c1 := s1.cell
  have c2 := s2.cell
  have f1 := s1.free
  have f2 := s2.free
  clear hk4
  go_wp2_with fail
  refine called_back _ (w.heap.size + 1) ⟨0, 0, 0, 0, v⟩ _ ?_ rfl rfl ⟨rfl, ?_, ?_⟩
  · refine BAt.as (arr := (((((#[.int .i64 0, .int .i64 0, .int .i64 0, .int .i64 0, .int .i64 0] : Array Value).setIfInBounds 0 (.int .i64 (⟨0, 0, 0, 0, v⟩ : SaidR).a)).setIfInBounds 1 (.int .i64 (⟨0, 0, 0, 0, v⟩ : SaidR).b)).setIfInBounds 2 (.int .i64 (⟨0, 0, 0, 0, v⟩ : SaidR).c)).setIfInBounds 3 (.int .i64 (⟨0, 0, 0, 0, v⟩ : SaidR).d)).setIfInBounds 4 (.int .i64 (⟨0, 0, 0, 0, v⟩ : SaidR).e)) ?_ rfl
    repeat (with_reducible first | refine BAt.drew ?_ | refine BAt.drewN ?_ _ | refine BAt.set ?_ _ _ | refine BAt.alloc ?_ _ | refine BAt.far ?_ _ (by first | (simp; done) | (simp; omega)) _ | exact s1)
  · repeat (with_reducible first | refine PAt.drew ?_ | refine PAt.drewN ?_ _ | refine PAt.far ?_ _ (by simp; omega) _ | refine BAt.alloc ?_ _ | exact hp4)
  · repeat (with_reducible first | refine Kept.drew ?_ | refine Kept.drewN ?_ _ | refine Kept.alloc ?_ _ | refine Kept.setCell ?_ _ (.inr (by first | (simp; done) | (simp; omega))) _ | exact hk)

set_option maxRecDepth 100000 in
set_option maxHeartbeats 1000000 in
theorem called_crash (b : Nat) (s s' : PC) (x y z v : Int) (hd : PDoes 24 [.int .i64 x] b s s' (.int .i64 v)) (w : World) (h : PAt w b s) :
    Calls Tryd.prog 8 #[.pointer (some ⟨b, 0, none⟩), .agg #[.int .i64 3, .int .i64 x, .int .i64 y, .int .i64 z]] w fun e w' => e = .returned (SaidR.v ⟨0, 0, 0, 0, v⟩) ∧ PAt w' b s' ∧ Wrote b w w' := by
  have hl := h.lt
  have h3' : ∀ o1 o2 o3, PAt (((w.alloc o1).alloc o2).alloc o3) b s := fun o1 o2 o3 => ((BAt.alloc (BAt.alloc (BAt.alloc h _) _) _))
  have H3 : Hid (∀ o1 o2 o3, PAt (((w.alloc o1).alloc o2).alloc o3) b s) := h3'
  have HD : Hid (PDoes 24 [.int .i64 x] b s s' (.int .i64 v)) := hd
  clear hd h3'
  go_enter Tryd.func8, Tryd.ntmps8
  go_wp2_with fail
  refine (HD.out _ (H3.out _ _ _)).mono ?_
  rintro e w4 ⟨rfl, hp4, hk4⟩
  obtain ⟨s1, s2, hk⟩ := said_kept _ hl hk4
  have c1 := s1.cell
  have c2 := s2.cell
  have f1 := s1.free
  have f2 := s2.free
  clear hk4
  go_wp2_with fail
  refine called_back _ (w.heap.size + 1) ⟨0, 0, 0, 0, v⟩ _ ?_ rfl rfl ⟨rfl, ?_, ?_⟩
  · refine BAt.as (arr := (((((#[.int .i64 0, .int .i64 0, .int .i64 0, .int .i64 0, .int .i64 0] : Array Value).setIfInBounds 0 (.int .i64 (⟨0, 0, 0, 0, v⟩ : SaidR).a)).setIfInBounds 1 (.int .i64 (⟨0, 0, 0, 0, v⟩ : SaidR).b)).setIfInBounds 2 (.int .i64 (⟨0, 0, 0, 0, v⟩ : SaidR).c)).setIfInBounds 3 (.int .i64 (⟨0, 0, 0, 0, v⟩ : SaidR).d)).setIfInBounds 4 (.int .i64 (⟨0, 0, 0, 0, v⟩ : SaidR).e)) ?_ rfl
    repeat (with_reducible first | refine BAt.drew ?_ | refine BAt.drewN ?_ _ | refine BAt.set ?_ _ _ | refine BAt.alloc ?_ _ | refine BAt.far ?_ _ (by first | (simp; done) | (simp; omega)) _ | exact s1)
  · repeat (with_reducible first | refine PAt.drew ?_ | refine PAt.drewN ?_ _ | refine PAt.far ?_ _ (by simp; omega) _ | refine BAt.alloc ?_ _ | exact hp4)
  · repeat (with_reducible first | refine Kept.drew ?_ | refine Kept.drewN ?_ _ | refine Kept.alloc ?_ _ | refine Kept.setCell ?_ _ (.inr (by first | (simp; done) | (simp; omega))) _ | exact hk)

set_option maxRecDepth 100000 in
set_option maxHeartbeats 1000000 in
theorem called_start (b : Nat) (s s' : PC) (x y z v : Int) (hd : PDoes 25 [.int .i64 x] b s s' (.int .i64 v)) (w : World) (h : PAt w b s) :
    Calls Tryd.prog 8 #[.pointer (some ⟨b, 0, none⟩), .agg #[.int .i64 4, .int .i64 x, .int .i64 y, .int .i64 z]] w fun e w' => e = .returned (SaidR.v ⟨0, 0, 0, 0, v⟩) ∧ PAt w' b s' ∧ Wrote b w w' := by
  have hl := h.lt
  have h3' : ∀ o1 o2 o3, PAt (((w.alloc o1).alloc o2).alloc o3) b s := fun o1 o2 o3 => ((BAt.alloc (BAt.alloc (BAt.alloc h _) _) _))
  have H3 : Hid (∀ o1 o2 o3, PAt (((w.alloc o1).alloc o2).alloc o3) b s) := h3'
  have HD : Hid (PDoes 25 [.int .i64 x] b s s' (.int .i64 v)) := hd
  clear hd h3'
  go_enter Tryd.func8, Tryd.ntmps8
  go_wp2_with fail
  refine (HD.out _ (H3.out _ _ _)).mono ?_
  rintro e w4 ⟨rfl, hp4, hk4⟩
  obtain ⟨s1, s2, hk⟩ := said_kept _ hl hk4
  have c1 := s1.cell
  have c2 := s2.cell
  have f1 := s1.free
  have f2 := s2.free
  clear hk4
  go_wp2_with fail
  refine called_back _ (w.heap.size + 1) ⟨0, 0, 0, 0, v⟩ _ ?_ rfl rfl ⟨rfl, ?_, ?_⟩
  · refine BAt.as (arr := (((((#[.int .i64 0, .int .i64 0, .int .i64 0, .int .i64 0, .int .i64 0] : Array Value).setIfInBounds 0 (.int .i64 (⟨0, 0, 0, 0, v⟩ : SaidR).a)).setIfInBounds 1 (.int .i64 (⟨0, 0, 0, 0, v⟩ : SaidR).b)).setIfInBounds 2 (.int .i64 (⟨0, 0, 0, 0, v⟩ : SaidR).c)).setIfInBounds 3 (.int .i64 (⟨0, 0, 0, 0, v⟩ : SaidR).d)).setIfInBounds 4 (.int .i64 (⟨0, 0, 0, 0, v⟩ : SaidR).e)) ?_ rfl
    repeat (with_reducible first | refine BAt.drew ?_ | refine BAt.drewN ?_ _ | refine BAt.set ?_ _ _ | refine BAt.alloc ?_ _ | refine BAt.far ?_ _ (by first | (simp; done) | (simp; omega)) _ | exact s1)
  · repeat (with_reducible first | refine PAt.drew ?_ | refine PAt.drewN ?_ _ | refine PAt.far ?_ _ (by simp; omega) _ | refine BAt.alloc ?_ _ | exact hp4)
  · repeat (with_reducible first | refine Kept.drew ?_ | refine Kept.drewN ?_ _ | refine Kept.alloc ?_ _ | refine Kept.setCell ?_ _ (.inr (by first | (simp; done) | (simp; omega))) _ | exact hk)

set_option maxRecDepth 100000 in
set_option maxHeartbeats 1000000 in
theorem called_campaign (b : Nat) (s s' : PC) (x y z v c : Int) (hd : PDoes 26 [.int .i64 x] b s s' (.tuple #[.int .i64 v, .int .i64 c])) (w : World) (h : PAt w b s) :
    Calls Tryd.prog 8 #[.pointer (some ⟨b, 0, none⟩), .agg #[.int .i64 5, .int .i64 x, .int .i64 y, .int .i64 z]] w fun e w' => e = .returned (SaidR.v ⟨v, 0, 0, 0, c⟩) ∧ PAt w' b s' ∧ Wrote b w w' := by
  have hl := h.lt
  have h3' : ∀ o1 o2 o3, PAt (((w.alloc o1).alloc o2).alloc o3) b s := fun o1 o2 o3 => ((BAt.alloc (BAt.alloc (BAt.alloc h _) _) _))
  have H3 : Hid (∀ o1 o2 o3, PAt (((w.alloc o1).alloc o2).alloc o3) b s) := h3'
  have HD : Hid (PDoes 26 [.int .i64 x] b s s' (.tuple #[.int .i64 v, .int .i64 c])) := hd
  clear hd h3'
  go_enter Tryd.func8, Tryd.ntmps8
  go_wp2_with fail
  refine (HD.out _ (H3.out _ _ _)).mono ?_
  rintro e w4 ⟨rfl, hp4, hk4⟩
  obtain ⟨s1, s2, hk⟩ := said_kept _ hl hk4
  have c1 := s1.cell
  have c2 := s2.cell
  have f1 := s1.free
  have f2 := s2.free
  clear hk4
  go_wp2_with fail
  refine called_back _ (w.heap.size + 1) ⟨v, 0, 0, 0, c⟩ _ ?_ rfl rfl ⟨rfl, ?_, ?_⟩
  · refine BAt.as (arr := (((((#[.int .i64 0, .int .i64 0, .int .i64 0, .int .i64 0, .int .i64 0] : Array Value).setIfInBounds 0 (.int .i64 (⟨v, 0, 0, 0, c⟩ : SaidR).a)).setIfInBounds 1 (.int .i64 (⟨v, 0, 0, 0, c⟩ : SaidR).b)).setIfInBounds 2 (.int .i64 (⟨v, 0, 0, 0, c⟩ : SaidR).c)).setIfInBounds 3 (.int .i64 (⟨v, 0, 0, 0, c⟩ : SaidR).d)).setIfInBounds 4 (.int .i64 (⟨v, 0, 0, 0, c⟩ : SaidR).e)) ?_ rfl
    repeat (with_reducible first | refine BAt.drew ?_ | refine BAt.drewN ?_ _ | refine BAt.set ?_ _ _ | refine BAt.alloc ?_ _ | refine BAt.far ?_ _ (by first | (simp; done) | (simp; omega)) _ | exact s1)
  · repeat (with_reducible first | refine PAt.drew ?_ | refine PAt.drewN ?_ _ | refine PAt.far ?_ _ (by simp; omega) _ | refine BAt.alloc ?_ _ | exact hp4)
  · repeat (with_reducible first | refine Kept.drew ?_ | refine Kept.drewN ?_ _ | refine Kept.alloc ?_ _ | refine Kept.setCell ?_ _ (.inr (by first | (simp; done) | (simp; omega))) _ | exact hk)

set_option maxRecDepth 100000 in
set_option maxHeartbeats 1000000 in
theorem called_ask (b : Nat) (s s' : PC) (x y z v c : Int) (hd : PDoes 27 [.int .i64 x, .int .i64 y, .int .i64 z] b s s' (.tuple #[.int .i64 v, .int .i64 c])) (w : World) (h : PAt w b s) :
    Calls Tryd.prog 8 #[.pointer (some ⟨b, 0, none⟩), .agg #[.int .i64 6, .int .i64 x, .int .i64 y, .int .i64 z]] w fun e w' => e = .returned (SaidR.v ⟨v, 0, 0, 0, c⟩) ∧ PAt w' b s' ∧ Wrote b w w' := by
  have hl := h.lt
  have h3' : ∀ o1 o2 o3, PAt (((w.alloc o1).alloc o2).alloc o3) b s := fun o1 o2 o3 => ((BAt.alloc (BAt.alloc (BAt.alloc h _) _) _))
  have H3 : Hid (∀ o1 o2 o3, PAt (((w.alloc o1).alloc o2).alloc o3) b s) := h3'
  have HD : Hid (PDoes 27 [.int .i64 x, .int .i64 y, .int .i64 z] b s s' (.tuple #[.int .i64 v, .int .i64 c])) := hd
  clear hd h3'
  go_enter Tryd.func8, Tryd.ntmps8
  go_wp2_with fail
  refine (HD.out _ (H3.out _ _ _)).mono ?_
  rintro e w4 ⟨rfl, hp4, hk4⟩
  obtain ⟨s1, s2, hk⟩ := said_kept _ hl hk4
  have c1 := s1.cell
  have c2 := s2.cell
  have f1 := s1.free
  have f2 := s2.free
  clear hk4
  go_wp2_with fail
  refine called_back _ (w.heap.size + 1) ⟨v, 0, 0, 0, c⟩ _ ?_ rfl rfl ⟨rfl, ?_, ?_⟩
  · refine BAt.as (arr := (((((#[.int .i64 0, .int .i64 0, .int .i64 0, .int .i64 0, .int .i64 0] : Array Value).setIfInBounds 0 (.int .i64 (⟨v, 0, 0, 0, c⟩ : SaidR).a)).setIfInBounds 1 (.int .i64 (⟨v, 0, 0, 0, c⟩ : SaidR).b)).setIfInBounds 2 (.int .i64 (⟨v, 0, 0, 0, c⟩ : SaidR).c)).setIfInBounds 3 (.int .i64 (⟨v, 0, 0, 0, c⟩ : SaidR).d)).setIfInBounds 4 (.int .i64 (⟨v, 0, 0, 0, c⟩ : SaidR).e)) ?_ rfl
    repeat (with_reducible first | refine BAt.drew ?_ | refine BAt.drewN ?_ _ | refine BAt.set ?_ _ _ | refine BAt.alloc ?_ _ | refine BAt.far ?_ _ (by first | (simp; done) | (simp; omega)) _ | exact s1)
  · repeat (with_reducible first | refine PAt.drew ?_ | refine PAt.drewN ?_ _ | refine PAt.far ?_ _ (by simp; omega) _ | refine BAt.alloc ?_ _ | exact hp4)
  · repeat (with_reducible first | refine Kept.drew ?_ | refine Kept.drewN ?_ _ | refine Kept.alloc ?_ _ | refine Kept.setCell ?_ _ (.inr (by first | (simp; done) | (simp; omega))) _ | exact hk)

set_option maxRecDepth 100000 in
set_option maxHeartbeats 1000000 in
theorem called_join (b : Nat) (s s' : PC) (x y z v c : Int) (hd : PDoes 28 [.int .i64 x] b s s' (.tuple #[.int .i64 v, .int .i64 c])) (w : World) (h : PAt w b s) :
    Calls Tryd.prog 8 #[.pointer (some ⟨b, 0, none⟩), .agg #[.int .i64 7, .int .i64 x, .int .i64 y, .int .i64 z]] w fun e w' => e = .returned (SaidR.v ⟨v, 0, 0, 0, c⟩) ∧ PAt w' b s' ∧ Wrote b w w' := by
  have hl := h.lt
  have h3' : ∀ o1 o2 o3, PAt (((w.alloc o1).alloc o2).alloc o3) b s := fun o1 o2 o3 => ((BAt.alloc (BAt.alloc (BAt.alloc h _) _) _))
  have H3 : Hid (∀ o1 o2 o3, PAt (((w.alloc o1).alloc o2).alloc o3) b s) := h3'
  have HD : Hid (PDoes 28 [.int .i64 x] b s s' (.tuple #[.int .i64 v, .int .i64 c])) := hd
  clear hd h3'
  go_enter Tryd.func8, Tryd.ntmps8
  go_wp2_with fail
  refine (HD.out _ (H3.out _ _ _)).mono ?_
  rintro e w4 ⟨rfl, hp4, hk4⟩
  obtain ⟨s1, s2, hk⟩ := said_kept _ hl hk4
  have c1 := s1.cell
  have c2 := s2.cell
  have f1 := s1.free
  have f2 := s2.free
  clear hk4
  go_wp2_with fail
  refine called_back _ (w.heap.size + 1) ⟨v, 0, 0, 0, c⟩ _ ?_ rfl rfl ⟨rfl, ?_, ?_⟩
  · refine BAt.as (arr := (((((#[.int .i64 0, .int .i64 0, .int .i64 0, .int .i64 0, .int .i64 0] : Array Value).setIfInBounds 0 (.int .i64 (⟨v, 0, 0, 0, c⟩ : SaidR).a)).setIfInBounds 1 (.int .i64 (⟨v, 0, 0, 0, c⟩ : SaidR).b)).setIfInBounds 2 (.int .i64 (⟨v, 0, 0, 0, c⟩ : SaidR).c)).setIfInBounds 3 (.int .i64 (⟨v, 0, 0, 0, c⟩ : SaidR).d)).setIfInBounds 4 (.int .i64 (⟨v, 0, 0, 0, c⟩ : SaidR).e)) ?_ rfl
    repeat (with_reducible first | refine BAt.drew ?_ | refine BAt.drewN ?_ _ | refine BAt.set ?_ _ _ | refine BAt.alloc ?_ _ | refine BAt.far ?_ _ (by first | (simp; done) | (simp; omega)) _ | exact s1)
  · repeat (with_reducible first | refine PAt.drew ?_ | refine PAt.drewN ?_ _ | refine PAt.far ?_ _ (by simp; omega) _ | refine BAt.alloc ?_ _ | exact hp4)
  · repeat (with_reducible first | refine Kept.drew ?_ | refine Kept.drewN ?_ _ | refine Kept.alloc ?_ _ | refine Kept.setCell ?_ _ (.inr (by first | (simp; done) | (simp; omega))) _ | exact hk)

set_option maxRecDepth 100000 in
set_option maxHeartbeats 1000000 in
theorem called_wait (b : Nat) (s s' : PC) (x y z v c : Int) (hd : PDoes 29 [.int .i64 x, .int .i64 y, .int .i64 z] b s s' (.tuple #[.int .i64 v, .int .i64 c])) (w : World) (h : PAt w b s) :
    Calls Tryd.prog 8 #[.pointer (some ⟨b, 0, none⟩), .agg #[.int .i64 8, .int .i64 x, .int .i64 y, .int .i64 z]] w fun e w' => e = .returned (SaidR.v ⟨v, 0, 0, 0, c⟩) ∧ PAt w' b s' ∧ Wrote b w w' := by
  have hl := h.lt
  have h3' : ∀ o1 o2 o3, PAt (((w.alloc o1).alloc o2).alloc o3) b s := fun o1 o2 o3 => ((BAt.alloc (BAt.alloc (BAt.alloc h _) _) _))
  have H3 : Hid (∀ o1 o2 o3, PAt (((w.alloc o1).alloc o2).alloc o3) b s) := h3'
  have HD : Hid (PDoes 29 [.int .i64 x, .int .i64 y, .int .i64 z] b s s' (.tuple #[.int .i64 v, .int .i64 c])) := hd
  clear hd h3'
  go_enter Tryd.func8, Tryd.ntmps8
  go_wp2_with fail
  refine (HD.out _ (H3.out _ _ _)).mono ?_
  rintro e w4 ⟨rfl, hp4, hk4⟩
  obtain ⟨s1, s2, hk⟩ := said_kept _ hl hk4
  have c1 := s1.cell
  have c2 := s2.cell
  have f1 := s1.free
  have f2 := s2.free
  clear hk4
  go_wp2_with fail
  refine called_back _ (w.heap.size + 1) ⟨v, 0, 0, 0, c⟩ _ ?_ rfl rfl ⟨rfl, ?_, ?_⟩
  · refine BAt.as (arr := (((((#[.int .i64 0, .int .i64 0, .int .i64 0, .int .i64 0, .int .i64 0] : Array Value).setIfInBounds 0 (.int .i64 (⟨v, 0, 0, 0, c⟩ : SaidR).a)).setIfInBounds 1 (.int .i64 (⟨v, 0, 0, 0, c⟩ : SaidR).b)).setIfInBounds 2 (.int .i64 (⟨v, 0, 0, 0, c⟩ : SaidR).c)).setIfInBounds 3 (.int .i64 (⟨v, 0, 0, 0, c⟩ : SaidR).d)).setIfInBounds 4 (.int .i64 (⟨v, 0, 0, 0, c⟩ : SaidR).e)) ?_ rfl
    repeat (with_reducible first | refine BAt.drew ?_ | refine BAt.drewN ?_ _ | refine BAt.set ?_ _ _ | refine BAt.alloc ?_ _ | refine BAt.far ?_ _ (by first | (simp; done) | (simp; omega)) _ | exact s1)
  · repeat (with_reducible first | refine PAt.drew ?_ | refine PAt.drewN ?_ _ | refine PAt.far ?_ _ (by simp; omega) _ | refine BAt.alloc ?_ _ | exact hp4)
  · repeat (with_reducible first | refine Kept.drew ?_ | refine Kept.drewN ?_ _ | refine Kept.alloc ?_ _ | refine Kept.setCell ?_ _ (.inr (by first | (simp; done) | (simp; omega))) _ | exact hk)

set_option maxRecDepth 100000 in
set_option maxHeartbeats 1000000 in
theorem called_level (b : Nat) (s s' : PC) (x y z l u c : Int) (hd : PDoes 34 [.int .i64 x, .int .i64 y] b s s' (.tuple #[.int .i64 l, .int .i64 u, .int .i64 c])) (w : World) (h : PAt w b s) :
    Calls Tryd.prog 8 #[.pointer (some ⟨b, 0, none⟩), .agg #[.int .i64 12, .int .i64 x, .int .i64 y, .int .i64 z]] w fun e w' => e = .returned (SaidR.v ⟨l, u, 0, 0, c⟩) ∧ PAt w' b s' ∧ Wrote b w w' := by
  have hl := h.lt
  have h3' : ∀ o1 o2 o3, PAt (((w.alloc o1).alloc o2).alloc o3) b s := fun o1 o2 o3 => ((BAt.alloc (BAt.alloc (BAt.alloc h _) _) _))
  have H3 : Hid (∀ o1 o2 o3, PAt (((w.alloc o1).alloc o2).alloc o3) b s) := h3'
  have HD : Hid (PDoes 34 [.int .i64 x, .int .i64 y] b s s' (.tuple #[.int .i64 l, .int .i64 u, .int .i64 c])) := hd
  clear hd h3'
  go_enter Tryd.func8, Tryd.ntmps8
  go_wp2_with fail
  refine (HD.out _ (H3.out _ _ _)).mono ?_
  rintro e w4 ⟨rfl, hp4, hk4⟩
  obtain ⟨s1, s2, hk⟩ := said_kept _ hl hk4
  have c1 := s1.cell
  have c2 := s2.cell
  have f1 := s1.free
  have f2 := s2.free
  clear hk4
  go_wp2_with fail
  refine called_back _ (w.heap.size + 1) ⟨l, u, 0, 0, c⟩ _ ?_ rfl rfl ⟨rfl, ?_, ?_⟩
  · refine BAt.as (arr := (((((#[.int .i64 0, .int .i64 0, .int .i64 0, .int .i64 0, .int .i64 0] : Array Value).setIfInBounds 0 (.int .i64 (⟨l, u, 0, 0, c⟩ : SaidR).a)).setIfInBounds 1 (.int .i64 (⟨l, u, 0, 0, c⟩ : SaidR).b)).setIfInBounds 2 (.int .i64 (⟨l, u, 0, 0, c⟩ : SaidR).c)).setIfInBounds 3 (.int .i64 (⟨l, u, 0, 0, c⟩ : SaidR).d)).setIfInBounds 4 (.int .i64 (⟨l, u, 0, 0, c⟩ : SaidR).e)) ?_ rfl
    repeat (with_reducible first | refine BAt.drew ?_ | refine BAt.drewN ?_ _ | refine BAt.set ?_ _ _ | refine BAt.alloc ?_ _ | refine BAt.far ?_ _ (by first | (simp; done) | (simp; omega)) _ | exact s1)
  · repeat (with_reducible first | refine PAt.drew ?_ | refine PAt.drewN ?_ _ | refine PAt.far ?_ _ (by simp; omega) _ | refine BAt.alloc ?_ _ | exact hp4)
  · repeat (with_reducible first | refine Kept.drew ?_ | refine Kept.drewN ?_ _ | refine Kept.alloc ?_ _ | refine Kept.setCell ?_ _ (.inr (by first | (simp; done) | (simp; omega))) _ | exact hk)

end Go.Proofs.YtpfahgogjeignabDoor
