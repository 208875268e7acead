/-
  The keeper's called, as one; single.
-/
import Derived.Test.YtpfahgogjeignabDoorKeepG
set_option linter.unusedVariables false
set_option linter.unusedSimpArgs false
namespace Go.Proofs.YtpfahgogjeignabDoor
open Go.RowKit
attribute [local go_sem ↓] Go.wp_at_zero Go.wp_at_succ

set_option maxRecDepth 100000 in
set_option maxHeartbeats 1000000 in
theorem called_none (b : Nat) (s : PC) (k x y z : Int) (hk : k < 1 ∨ 12 < k) (w : World) (h : PAt w b s) :
    Calls Tryd.prog 8 #[.pointer (some ⟨b, 0, none⟩), .agg #[.int .i64 k, .int .i64 x, .int .i64 y, .int .i64 z]] w fun e w' => e = .returned (SaidR.v ⟨0, 0, 0, 0, 0⟩) ∧ PAt w' b s ∧ Wrote b w w' := by
  have hl := h.lt
  have hp4 : PAt (((w.alloc (.cells #[.int .i64 k, .int .i64 x, .int .i64 y, .int .i64 z] 38)).alloc (.cells #[.int .i64 0, .int .i64 0, .int .i64 0, .int .i64 0, .int .i64 0] 35)).alloc (.cells #[.int .i64 0, .int .i64 0, .int .i64 0, .int .i64 0, .int .i64 0] 35)) b s := PAt.alloc (PAt.alloc (PAt.alloc h _) _) _
  obtain ⟨s1, s2, hkk⟩ := said_kept (w := w) (b := b) (.cells #[.int .i64 k, .int .i64 x, .int .i64 y, .int .i64 z] 38) hl (Kept.refl _ _)
  have e1 : (k == 1) = false := by simp; omega
  have e2 : (k == 2) = false := by simp; omega
  have e3 : (k == 3) = false := by simp; omega
  have e4 : (k == 4) = false := by simp; omega
  have e5 : (k == 5) = false := by simp; omega
  have e6 : (k == 6) = false := by simp; omega
  have e7 : (k == 7) = false := by simp; omega
  have e8 : (k == 8) = false := by simp; omega
  have e9 : (k == 9) = false := by simp; omega
  have e10 : (k == 10) = false := by simp; omega
  have e11 : (k == 11) = false := by simp; omega
  have e12 : (k == 12) = false := by simp; omega
  clear hk
  go_enter Tryd.func8, Tryd.ntmps8
  go_wp2_with fail
  refine called_back _ (w.heap.size + 1) ⟨0, 0, 0, 0, 0⟩ _ ?_ rfl rfl ⟨rfl, ?_, ?_⟩
  · exact s1
  · exact hp4
  · exact hkk

theorem same_wrote {f : FuncId} {args : List Value} {b : Nat} {s : PC} {v : Value} (h : ∀ w, PAt w b s → Calls Tryd.prog f (.pointer (some ⟨b, 0, none⟩) :: args).toArray w fun e w' => e = .returned v ∧ ∃ q, w' = w.drewN q) : PDoes f args b s s v :=
  fun w hw => (h w hw).mono fun _ _ ⟨he, q, hq⟩ => ⟨he, by rw [hq]; exact hw.drewN q, by rw [hq]; exact (Kept.refl _ _).drewN q⟩

/-- A step on a cluster. -/
theorem called_any (b : Nat) (s : PC) (ok : s.Ok) (k x y z : Int) (w : World) (h : PAt w b s) :
    Calls Tryd.prog 8 #[.pointer (some ⟨b, 0, none⟩), .agg #[.int .i64 k, .int .i64 x, .int .i64 y, .int .i64 z]] w fun e w' => e = .returned (s.call k x y z).1.v ∧ PAt w' b (s.call k x y z).2 ∧ Wrote b w w' := by
  by_cases hk : k < 1 ∨ 12 < k
  · have e : s.call k x y z = (⟨0, 0, 0, 0, 0⟩, s) := by
      unfold PC.call
      rw [if_neg (by omega), if_neg (by omega), if_neg (by omega), if_neg (by omega), if_neg (by omega), if_neg (by omega), if_neg (by omega), if_neg (by omega), if_neg (by omega), if_neg (by omega), if_neg (by omega), if_neg (by omega)]
    rw [e]
    exact called_none b s k x y z hk w h
  · rcases (by omega : k = 1 ∨ k = 2 ∨ k = 3 ∨ k = 4 ∨ k = 5 ∨ k = 6 ∨ k = 7 ∨ k = 8 ∨ k = 9 ∨ k = 10 ∨ k = 11 ∨ k = 12) with rfl | rfl | rfl | rfl | rfl | rfl | rfl | rfl | rfl | rfl | rfl | rfl
    · exact called_pass b s _ x y z _ (pass_does ok b x) w h
    · exact called_link b s _ x y z _ (link_does s b x y z) w h
    · exact called_crash b s _ x y z _ (crash_does s b x) w h
    · exact called_start b s _ x y z _ (start_does s b x) w h
    · exact called_campaign b s _ x y z _ _ (camp_does ok b x) w h
    · exact called_ask b s _ x y z _ _ (ask_does ok b x y z) w h
    · exact called_join b s _ x y z _ _ (join_does ok b x) w h
    · exact called_wait b s _ x y z _ _ (wait_does ok b x y z) w h
    · exact called_time b s s x y z _ (same_wrote (fun w hw => (time_any b s w hw).mono fun _ _ ⟨he, hw'⟩ => ⟨he, 0, hw'⟩)) w h
    · exact called_witness b s s x y z _ _ _ _ (pdoes_not (fun w hw => witness_any b s w hw)) w h
    · exact called_node b s s x y z _ _ _ _ _ (pdoes_not (fun w hw => pnode_all b s x w hw)) w h
    · exact called_level b s s x y z _ _ _ (same_wrote (fun w hw => plevel_all b s x y w hw ok)) w h

end Go.Proofs.YtpfahgogjeignabDoor
