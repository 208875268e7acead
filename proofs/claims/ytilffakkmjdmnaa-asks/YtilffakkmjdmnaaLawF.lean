/-
  tells: levels, the time, the witness, and whatever else.
-/
import Derived.Test.YtilffakkmjdmnaaLawD
set_option linter.unusedVariables false
set_option linter.unusedSimpArgs false
namespace Go.Proofs.Ytilffakkmjdmnaa
open Go.RowKit
attribute [local go_sem] fArr_get rg4

theorem quiet_more {P : Program} {f : FuncId} {args : Array Value} {W : World} {q x : Nat} {v : Value} (h : Calls P f args (W.drewN (q + x)) fun e w' => e = .returned v ∧ ∃ m, w' = (W.drewN (q + x)).drewN m) :
    Calls P f args (W.drewN (q + x)) fun e w'' => e = .returned v ∧ ∃ n, w'' = W.drewN (q + n) :=
  h.mono fun _ _ ⟨he, m, hm⟩ => ⟨he, x + m, by rw [hm, World.drewN_drewN, Nat.add_assoc]⟩

set_option maxRecDepth 100000 in
set_option maxHeartbeats 1000000 in
theorem tells_level (p b : Nat) (A : RA) (s : PC) (r : RS) (i k z : Int) (w : World) (hp : Pair w p b A s r) (hs : Sim s r) :
    Calls Try.prog 37 #[.pointer (some ⟨p, 0, none⟩), .agg #[.int .i64 12, .int .i64 i, .int .i64 k, .int .i64 z]] w fun e w' => e = .returned (.bool true) ∧ Same w w' := by
  have hl := hp.hp.lt
  have hc0 : w.cell? ⟨p, 0, none⟩ = some (.pointer (some ⟨b, 0, none⟩)) := hp.hp.cell 0
  have hc1 : w.cell? ⟨p, 1, none⟩ = some (.pointer (some ⟨A.c, 0, none⟩)) := hp.hp.cell 1
  have hp0 := hp.same ((Kept.refl _ _).alloc (.cells #[.int .i64 12, .int .i64 i, .int .i64 k, .int .i64 z] 30))
  have HC : ∀ q, Hid (Calls Try.prog 53 #[.pointer (some ⟨b, 0, none⟩), .int .i64 i, .int .i64 k] ((w.alloc (.cells #[.int .i64 12, .int .i64 i, .int .i64 k, .int .i64 z] 30)).drewN q) fun e' w' => e' = .returned (.tuple #[.int .i64 (tI s i k (s.lev i.toNat k.toNat)), .int .i64 (tI s i k (s.win i.toNat k.toNat)), .int .i64 (tC s i k)]) ∧ ∃ m, w' = ((w.alloc (.cells #[.int .i64 12, .int .i64 i, .int .i64 k, .int .i64 z] 30)).drewN q).drewN m) :=
    fun q => plevel_all b s i k _ (hp0.hc.drewN q) hs.ok
  have HR : ∀ q, Hid (Calls Try.prog 82 #[.pointer (some ⟨A.c, 0, none⟩), .int .i64 i, .int .i64 k] ((w.alloc (.cells #[.int .i64 12, .int .i64 i, .int .i64 k, .int .i64 z] 30)).drewN q) fun e' w' => e' = .returned (.tuple #[.int .i64 (tI s i k (s.lev i.toNat k.toNat)), .int .i64 (tI s i k (s.win i.toNat k.toNat)), .int .i64 (tC s i k)]) ∧ ∃ m, w' = ((w.alloc (.cells #[.int .i64 12, .int .i64 i, .int .i64 k, .int .i64 z] 30)).drewN q).drewN m) :=
    fun q => rlevel_all A s r i k _ (hp0.hr.drewN q) hs
  clear hp0
  go_enter Try.func37, Try.ntmps37
  go_wp2_with fail
  go_quiet ((go_at_call 53; exact Calls.quiet_of (HC _).out))
  go_wp2_with fail
  go_quiet ((go_at_call 82; exact quiet_more (HR _).out))
  go_wp2
  go_ret
  exact ⟨rfl, Kept.drewN (Kept.alloc (Kept.refl _ _) _) _⟩

set_option maxRecDepth 100000 in
set_option maxHeartbeats 1000000 in
theorem tells_time (p b : Nat) (A : RA) (s : PC) (r : RS) (x y z : Int) (w : World) (hp : Pair w p b A s r) (hs : Sim s r) :
    Calls Try.prog 37 #[.pointer (some ⟨p, 0, none⟩), .agg #[.int .i64 9, .int .i64 x, .int .i64 y, .int .i64 z]] w fun e w' => e = .returned (.bool true) ∧ Same w w' := by
  have hl := hp.hp.lt
  have hc0 : w.cell? ⟨p, 0, none⟩ = some (.pointer (some ⟨b, 0, none⟩)) := hp.hp.cell 0
  have hc1 : w.cell? ⟨p, 1, none⟩ = some (.pointer (some ⟨A.c, 0, none⟩)) := hp.hp.cell 1
  have hrl := hp.hr.c.lt
  have hr := hp.hr.c.cell
  have hn : (r.now == r.now) = true := by simp
  go_enter Try.func37, Try.ntmps37
  go_wp2_with (go_at_call 51; refine (time_any b s _ (hp.hc.same ((Kept.refl _ _).alloc _))).mono ?_; rw [hs.now]; rintro e w' ⟨rfl, rfl⟩)
  go_ret
  exact ⟨rfl, Kept.alloc (Kept.refl _ _) _⟩

set_option maxRecDepth 100000 in
set_option maxHeartbeats 1000000 in
theorem tells_witness (p b : Nat) (A : RA) (s : PC) (r : RS) (x y z : Int) (w : World) (hp : Pair w p b A s r) (hs : Sim s r) :
    Calls Try.prog 37 #[.pointer (some ⟨p, 0, none⟩), .agg #[.int .i64 10, .int .i64 x, .int .i64 y, .int .i64 z]] w fun e w' => e = .returned (.bool true) ∧ Same w w' := by
  have hl := hp.hp.lt
  have hc0 : w.cell? ⟨p, 0, none⟩ = some (.pointer (some ⟨b, 0, none⟩)) := hp.hp.cell 0
  have hc1 : w.cell? ⟨p, 1, none⟩ = some (.pointer (some ⟨A.c, 0, none⟩)) := hp.hp.cell 1
  go_enter Try.func37, Try.ntmps37
  go_wp2_with fail
  refine (witness_any b s _ (hp.hc.same ((Kept.refl _ _).alloc _))).mono ?_
  rintro e w3 ⟨rfl, hS3⟩
  have hp3 := (hp.same ((Kept.refl _ _).alloc _)).same hS3
  have hl3 := hp3.hp.lt
  have hc13 : w3.cell? ⟨p, 1, none⟩ = some (.pointer (some ⟨A.c, 0, none⟩)) := hp3.hp.cell 1
  go_wp2_with fail
  refine (rwitness_all A s r _ (by exact hp3.hr.same ((Kept.refl _ _).alloc _)) hs).mono ?_
  rintro e w4 ⟨rfl, hS4⟩
  have hz4 : BAt w4 w3.heap.size 75 #[.int .i64 s.holder, .int .i64 s.wepoch, .int .i64 s.wtil, .bool s.solo] := (BAt.made' _ _ rfl _ _).kept hS4 (fun h => h)
  have hz4c := hz4.cell
  have hz4l := hz4.lt
  go_wp2_with (go_at_call 79; refine (sameWitness_any _ _ _ _ _).mono ?_; rintro e w5 ⟨rfl, hS5⟩)
  go_ret
  exact ⟨rfl, ((((Kept.alloc (Kept.refl _ _) _).trans hS3).alloc _).trans hS4).trans (Kept.trans (Kept.alloc (Kept.refl _ _) _) hS5)⟩

set_option maxRecDepth 100000 in
set_option maxHeartbeats 1000000 in
theorem tells_other (p : Nat) (k x y z : Int) (w : World) (h9 : k ≠ 9) (h10 : k ≠ 10) (h11 : k ≠ 11) (h12 : k ≠ 12) :
    Calls Try.prog 37 #[.pointer (some ⟨p, 0, none⟩), .agg #[.int .i64 k, .int .i64 x, .int .i64 y, .int .i64 z]] w fun e w' => e = .returned (.bool true) ∧ Same w w' := by
  have e9 : (k == 9) = false := by simp [h9]
  have e10 : (k == 10) = false := by simp [h10]
  have e11 : (k == 11) = false := by simp [h11]
  have e12 : (k == 12) = false := by simp [h12]
  go_enter Try.func37, Try.ntmps37
  go_wp2
  go_ret
  exact ⟨rfl, Kept.alloc (Kept.refl _ _) _⟩

end Go.Proofs.Ytilffakkmjdmnaa
