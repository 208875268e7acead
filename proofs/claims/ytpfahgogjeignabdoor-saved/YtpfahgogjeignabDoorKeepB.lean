/-
  The keeper's awake and opened.
-/
import Derived.Test.YtpfahgogjeignabDoorKeepA
import Derived.Test.YtpfahgogjeignabDoorProM
set_option linter.unusedVariables false
set_option linter.unusedSimpArgs false
namespace Go.Proofs.YtpfahgogjeignabDoor
open Go.RowKit
attribute [local go_sem ↓] Go.wp_at_zero Go.wp_at_succ

def aw0 : PC := PC.fresh 10 0 (1 : Nat) (fun _ => 1) (fun _ => 5) 1 2 (-1)
def aw1 : PC := (aw0.campaigned 0).2
def aw2 : PC := (aw1.asked 0 0 6).2
def aw3 : PC := (aw2.asked 0 0 5).2
def aw4 : PC := (aw3.asked 0 0 1).2
def aw5 : PC := aw4.passed 1
def aw6 : PC := (aw5.asked 0 0 1).2
def aw7 : PC := (aw6.asked 1 0 1).2
theorem aw_v0 : (aw0.campaigned 0).1 = 1 := by decide +kernel
theorem aw_v1 : (aw1.asked 0 0 6).1 = 6 := by decide +kernel
theorem aw_v2 : (aw2.asked 0 0 5).1 = 5 := by decide +kernel
theorem aw_v3 : (aw3.asked 0 0 1).1 = 6 := by decide +kernel
theorem aw_v5 : (aw5.asked 0 0 1).1 = 5 := by decide +kernel
theorem aw_v6 : (aw6.asked 1 0 1).1 = 4 := by decide +kernel
theorem aw_good : Good 10 0 1 (fun _ => 1) (fun _ => 5) := ⟨by decide, by decide, ⟨by decide, by decide, fun i _ => ⟨show (0 : Int) ≤ 1 by decide, show (1 : Int) ≤ 1000 by decide, show (1 : Int) ≤ 5 by decide, show (5 : Int) ≤ 1000000 by decide⟩⟩, by decide, fun i _ => show (0 : Int) ≤ 5 by decide⟩
theorem aw_o0 : aw0.Ok := fresh_ok aw_good.l0 aw_good.l1 aw_good.ten aw_good.win 2 (-1)
theorem aw_o1 : aw1.Ok := campaigned_ok aw_o0 0
theorem aw_o2 : aw2.Ok := asked_ok aw_o1 0 0 6 (by decide) (by decide)
theorem aw_o3 : aw3.Ok := asked_ok aw_o2 0 0 5 (by decide) (by decide)
theorem aw_o4 : aw4.Ok := asked_ok aw_o3 0 0 1 (by decide) (by decide)
theorem aw_t : (1 : Int) ≤ 1000000000000 - aw4.now := by decide +kernel
theorem aw_o5 : aw5.Ok := passed_ok aw_o4 1 (by decide) aw_t
theorem aw_o6 : aw6.Ok := asked_ok aw_o5 0 0 1 (by decide) (by decide)

theorem ask_at (b : Nat) (s : PC) (i k cost v : Int) (hw : s.wrong i k cost = 0) (h0 : 0 ≤ i) (h2 : i < 2) (hu : s.up i.toNat = true) (k0 : 0 ≤ k) (kc : k < s.count) (c0 : 1 ≤ cost) (c1 : cost ≤ 2000000) (ok : s.Ok) (hv : (s.asked i.toNat k.toNat cost).1 = v) (w : World) (h : PAt w b s) :
    Calls Tryd.prog 27 #[.pointer (some ⟨b, 0, none⟩), .int .i64 i, .int .i64 k, .int .i64 cost] w fun e w' => e = .returned (.tuple #[.int .i64 v, .int .i64 0]) ∧ PAt w' b (s.asked i.toNat k.toNat cost).2 ∧ Wrote b w w' := by
  have := ask_yes b s i k cost hw h0 h2 hu k0 kc c0 c1 ok w h
  rw [hv] at this
  exact this

set_option maxRecDepth 100000 in
set_option maxHeartbeats 1000000 in
theorem awake_any (w : World) : Calls Tryd.prog 35 #[] w fun e w' => e = .returned (.bool true) ∧ Same w w' := by
  have hT : Ten (w.alloc (.cells #[.int .i64 1, .int .i64 5] 56)) (some ⟨w.heap.size, 0, none⟩) 1 (fun _ => 1) (fun _ => 5) := by
    have hb : BAt (w.alloc (.cells #[.int .i64 1, .int .i64 5] 56)) w.heap.size 56 #[.int .i64 1, .int .i64 5] := BAt.made' _ _ rfl _ _
    refine .inr ⟨w.heap.size, 0, rfl, hb.lt, fun i hi => ?_, fun i hi => ?_⟩
    · obtain rfl : i = 0 := by omega
      exact hb.cell 0
    · obtain rfl : i = 0 := by omega
      exact hb.cell 1
  have N0 := new_yes 10 0 (some ⟨w.heap.size, 0, none⟩) 1 1 (fun _ => 1) (fun _ => 5) _ hT aw_good.l0 aw_good.l1 aw_good.ten aw_good.win
  have HN : Hid (Calls Tryd.prog 36 #[.int .i64 10, .int .i64 0, .slice (some ⟨w.heap.size, 0, none⟩) 1 1] (w.alloc (.cells #[.int .i64 1, .int .i64 5] 56)) fun e w' => ∃ b, e = .returned (.tuple #[.pointer (some ⟨b, 0, none⟩), .int .i64 0]) ∧ (w.alloc (.cells #[.int .i64 1, .int .i64 5] 56)).heap.size ≤ b ∧ PAt w' b aw0 ∧ Same (w.alloc (.cells #[.int .i64 1, .int .i64 5] 56)) w') := N0
  clear N0 hT
  go_enter Tryd.func35, Tryd.ntmps35
  go_wp2_with fail
  refine HN.out.mono ?_
  rintro e w1 ⟨b, rfl, hb1, hp1, hs1⟩
  have hs01 : Same w w1 := (Kept.alloc (Kept.refl _ _) _).trans hs1
  have hbw : w.heap.size ≤ b := Nat.le_trans (by simp) hb1
  clear hs1 hb1 HN
  go_wp2_with fail
  have C0 := campaign_yes b aw0 0 (by decide) (by decide) (by decide +kernel) aw_o0 w1 hp1
  rw [aw_v0] at C0
  refine C0.mono ?_
  rintro e w2 ⟨rfl, hp2, hk2⟩
  clear C0
  go_wp2_with fail
  refine (ask_at b aw1 0 0 6 6 (by decide +kernel) (by decide) (by decide) (by decide +kernel) (by decide) (by decide +kernel) (by decide) (by decide) aw_o1 aw_v1 w2 hp2).mono ?_
  rintro e w3 ⟨rfl, hp3, hk3⟩
  go_wp2_with fail
  refine (ask_at b aw2 0 0 5 5 (by decide +kernel) (by decide) (by decide) (by decide +kernel) (by decide) (by decide +kernel) (by decide) (by decide) aw_o2 aw_v2 w3 hp3).mono ?_
  rintro e w4 ⟨rfl, hp4, hk4⟩
  go_wp2_with fail
  refine (ask_at b aw3 0 0 1 6 (by decide +kernel) (by decide) (by decide) (by decide +kernel) (by decide) (by decide +kernel) (by decide) (by decide) aw_o3 aw_v3 w4 hp4).mono ?_
  rintro e w5 ⟨rfl, hp5, hk5⟩
  go_wp2_with fail
  refine (pass_yes b aw4 1 (by decide) aw_t aw_o4 w5 hp5).mono ?_
  rintro e w6 ⟨rfl, hp6, hk6⟩
  go_wp2_with fail
  refine (ask_at b aw5 0 0 1 5 (by decide +kernel) (by decide) (by decide) (by decide +kernel) (by decide) (by decide +kernel) (by decide) (by decide) aw_o5 aw_v5 w6 hp6).mono ?_
  rintro e w7 ⟨rfl, hp7, hk7⟩
  go_wp2_with fail
  refine (ask_at b aw6 1 0 1 4 (by decide +kernel) (by decide) (by decide) (by decide +kernel) (by decide) (by decide +kernel) (by decide) (by decide) aw_o6 aw_v6 w7 hp7).mono ?_
  rintro e w8 ⟨rfl, hp8, hk8⟩
  go_wp2_with fail
  go_ret
  have kk := (((((hk2.trans hk3).trans hk4).trans hk5).trans hk6).trans hk7).trans hk8
  exact ⟨rfl, kk.os.trans hs01.os, kk.tape.trans hs01.tape, kk.output.trans hs01.output, Nat.le_trans hs01.size kk.size, fun q hq _ => (kk.block q (Nat.lt_of_lt_of_le hq hs01.size) (by omega)).trans (hs01.block q hq (fun h => h))⟩

set_option maxRecDepth 100000 in
set_option maxHeartbeats 1000000 in
theorem opened_no (le wi : Int) (a : Option Addr) (n cap : Nat) (R B : Nat → Int) (w : World) (hT : Ten w a n R B) (hn : n * 16 ≤ 140737488355328) (no : ¬ Good le wi n R B) :
    Calls Tryd.prog 12 #[.agg #[.int .i64 le, .int .i64 wi, .slice a n cap]] w fun e w' => e = .returned (.tuple #[.pointer none, .bool true]) ∧ Same w w' := by
  have HN : Hid (n * 16 ≤ 140737488355328) := hn
  have NO : Hid (¬ Good le wi n R B) := no
  have hT1 := hT.alloc (.cells #[.int .i64 le, .int .i64 wi, .slice a n cap] 24)
  have hb1 : BAt (w.alloc (.cells #[.int .i64 le, .int .i64 wi, .slice a n cap] 24)) w.heap.size 24 #[.int .i64 le, .int .i64 wi, .slice a n cap] := BAt.made' _ _ rfl _ _
  have hS1 : Same w (w.alloc (.cells #[.int .i64 le, .int .i64 wi, .slice a n cap] 24)) := Kept.alloc (Kept.refl _ _) _
  clear hn no hT
  go_enter Tryd.func12, Tryd.ntmps12
  go_wp2_with fail
  refine (awake_any _).mono ?_
  rintro e w2 ⟨rfl, hk2⟩
  have hT2 := hT1.same hk2
  have hb2 := hb1.kept hk2 (fun h => h)
  have hS2 := hS1.trans hk2
  have c0 : w2.cell? ⟨w.heap.size, 0, none⟩ = some (.int .i64 le) := hb2.cell 0
  have c1 : w2.cell? ⟨w.heap.size, 1, none⟩ = some (.int .i64 wi) := hb2.cell 1
  have c2 : w2.cell? ⟨w.heap.size, 2, none⟩ = some (.slice a n cap) := hb2.cell 2
  have hl2 := hb2.lt
  clear hk2 hT1 hb1 hS1
  go_wp2_with fail
  go_cut [5, 6] from 8 (fun v1 c1 wx => v1 = .pointer none ∧ (∃ c : Int, c ≠ 0 ∧ c1 = .int .i64 c) ∧ Same w2 wx)
  case first =>
    go_region_with (first | (go_at_call 37; refine (copied_any a n cap R B _ (by exact hT2) HN.out).mono ?_; rintro e w3 ⟨rfl, hT3, hk3⟩; have hb3 := (BAt.drew hb2).kept hk3 (fun h => h); have d0 : w3.cell? ⟨w.heap.size, 0, none⟩ = some (.int .i64 le) := hb3.cell 0; have d1 : w3.cell? ⟨w.heap.size, 1, none⟩ = some (.int .i64 wi) := hb3.cell 1; have hl3 := hb3.lt) | (go_at_call 36; refine (new_no le wi _ n n R B _ hT3 NO.out).mono ?_; rintro e w4 ⟨c, hc, rfl, hk4⟩))
    all_goals go_wp2_with fail
    all_goals go_meet
    all_goals exact ⟨rfl, ⟨c, hc, rfl⟩, (Kept.trans (Kept.drew (Kept.refl _ _)) hk3).trans hk4⟩
  case rest =>
    obtain ⟨rfl, ⟨c, hc, rfl⟩, hk3⟩ := hcut
    have hT3 := hT2.same hk3
    have hb3 := hb2.kept hk3 (fun h => h)
    have d0 : wc.cell? ⟨w.heap.size, 0, none⟩ = some (.int .i64 le) := hb3.cell 0
    have d1 : wc.cell? ⟨w.heap.size, 1, none⟩ = some (.int .i64 wi) := hb3.cell 1
    have d2 : wc.cell? ⟨w.heap.size, 2, none⟩ = some (.slice a n cap) := hb3.cell 2
    have hl3 := hb3.lt
    have ec : (c == 0) = false := by simp [hc]
    clear hT2 hb2 c0 c1 c2
    go_wp2_with fail
    refine (fits_no le wi a n cap R B _ hT3 HN.out NO.out).mono ?_
    rintro e w5 ⟨rfl, hk5⟩
    go_wp2_with fail
    go_ret2
    exact ⟨rfl, (hS2.trans hk3).trans hk5⟩

set_option maxRecDepth 100000 in
set_option maxHeartbeats 1000000 in
theorem opened_yes (le wi : Int) (a : Option Addr) (n cap : Nat) (R B : Nat → Int) (w : World) (hT : Ten w a n R B) (hn : n * 16 ≤ 140737488355328) (ok : Good le wi n R B) :
    Calls Tryd.prog 12 #[.agg #[.int .i64 le, .int .i64 wi, .slice a n cap]] w fun e w' => ∃ b, e = .returned (.tuple #[.pointer (some ⟨b, 0, none⟩), .bool true]) ∧ w.heap.size ≤ b ∧ PAt w' b (PC.fresh le wi n R B n 2 (-1)) ∧ Same w w' := by
  have HN : Hid (n * 16 ≤ 140737488355328) := hn
  have OK : Hid (Good le wi n R B) := ok
  have hT1 := hT.alloc (.cells #[.int .i64 le, .int .i64 wi, .slice a n cap] 24)
  have hb1 : BAt (w.alloc (.cells #[.int .i64 le, .int .i64 wi, .slice a n cap] 24)) w.heap.size 24 #[.int .i64 le, .int .i64 wi, .slice a n cap] := BAt.made' _ _ rfl _ _
  have hS1 : Same w (w.alloc (.cells #[.int .i64 le, .int .i64 wi, .slice a n cap] 24)) := Kept.alloc (Kept.refl _ _) _
  clear hn ok hT
  go_enter Tryd.func12, Tryd.ntmps12
  go_wp2_with fail
  refine (awake_any _).mono ?_
  rintro e w2 ⟨rfl, hk2⟩
  have hT2 := hT1.same hk2
  have hb2 := hb1.kept hk2 (fun h => h)
  have hS2 := hS1.trans hk2
  have c0 : w2.cell? ⟨w.heap.size, 0, none⟩ = some (.int .i64 le) := hb2.cell 0
  have c1 : w2.cell? ⟨w.heap.size, 1, none⟩ = some (.int .i64 wi) := hb2.cell 1
  have c2 : w2.cell? ⟨w.heap.size, 2, none⟩ = some (.slice a n cap) := hb2.cell 2
  have hl2 := hb2.lt
  clear hk2 hT1 hb1 hS1
  go_wp2_with fail
  go_cut [5, 6] from 8 (fun v1 c1 wx => ∃ b, v1 = .pointer (some ⟨b, 0, none⟩) ∧ c1 = .int .i64 0 ∧ w2.heap.size ≤ b ∧ PAt wx b (PC.fresh le wi n R B n 2 (-1)) ∧ Same w2 wx)
  case first =>
    go_region_with (first | (go_at_call 37; refine (copied_any a n cap R B _ (by exact hT2) HN.out).mono ?_; rintro e w3 ⟨rfl, hT3, hk3⟩; have hb3 := (BAt.drew hb2).kept hk3 (fun h => h); have d0 : w3.cell? ⟨w.heap.size, 0, none⟩ = some (.int .i64 le) := hb3.cell 0; have d1 : w3.cell? ⟨w.heap.size, 1, none⟩ = some (.int .i64 wi) := hb3.cell 1; have hl3 := hb3.lt) | (go_at_call 36; refine (new_yes le wi _ n n R B _ hT3 OK.out.l0 OK.out.l1 OK.out.ten OK.out.win).mono ?_; rintro e w4 ⟨b, rfl, hb4, hp4, hk4⟩))
    all_goals go_wp2_with fail
    all_goals go_meet
    all_goals exact ⟨b, rfl, rfl, Nat.le_trans hk3.size hb4, hp4, (Kept.trans (Kept.drew (Kept.refl _ _)) hk3).trans hk4⟩
  case rest =>
    obtain ⟨b, rfl, rfl, hbb, hp3, hk3⟩ := hcut
    have hT3 := hT2.same hk3
    have hb3 := hb2.kept hk3 (fun h => h)
    have d0 : wc.cell? ⟨w.heap.size, 0, none⟩ = some (.int .i64 le) := hb3.cell 0
    have d1 : wc.cell? ⟨w.heap.size, 1, none⟩ = some (.int .i64 wi) := hb3.cell 1
    have d2 : wc.cell? ⟨w.heap.size, 2, none⟩ = some (.slice a n cap) := hb3.cell 2
    have hl3 := hb3.lt
    clear hT2 hb2 c0 c1 c2
    go_wp2_with fail
    refine (fits_yes le wi a n cap R B _ hT3 OK.out).mono ?_
    rintro e w5 ⟨rfl, hk5⟩
    go_wp2_with fail
    go_ret2
    exact ⟨b, rfl, Nat.le_trans hS2.size hbb, hp3.same hk5, (hS2.trans hk3).trans hk5⟩

end Go.Proofs.YtpfahgogjeignabDoor
