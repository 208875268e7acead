/-
  moves: one of its calls. moves: one of its calls. works: one of its calls.
-/
import Derived.Test.YtpfahgogjeignaaGreatDoorLawI
set_option linter.unusedVariables false
set_option linter.unusedSimpArgs false
namespace Go.Proofs.YtpfahgogjeignaaGreatDoor
open Go.RowKit
attribute [local go_sem ↓] Go.wp_at_zero Go.wp_at_succ

set_option maxRecDepth 100000 in
set_option maxHeartbeats 1000000 in
theorem moves_pass (m B0 p b : Nat) (A : RA) (s : PC) (r : RS) (x y z : Int) (w : World) (hL : Live m B0 w p b A s r) :
    Calls Tryz.prog 18 #[.pointer (some ⟨p, 0, none⟩), .agg #[.int .i64 1, .int .i64 x, .int .i64 y, .int .i64 z]] w fun e w' => e = .returned (.bool true) ∧ (∃ A' s' r', Live (m + 1) B0 w' p b A' s' r' ∧ r'.n = r.n ∧ Stepped p b b r.n A A' w w') ∧ Below B0 w w' := by
  obtain ⟨c, s', r', hB⟩ := pass_both hL.sim b x
  have hL1 := hL.same ((Kept.refl _ _).alloc (.cells #[.int .i64 1, .int .i64 x, .int .i64 y, .int .i64 z] 34))
  have hbel : Below B0 w (w.alloc (.cells #[.int .i64 1, .int .i64 x, .int .i64 y, .int .i64 z] 34)) := (Below.refl _ _).alloc hL.base _
  have hsw : Same w (w.alloc (.cells #[.int .i64 1, .int .i64 x, .int .i64 y, .int .i64 z] 34)) := (Kept.refl _ _).alloc _
  have hl := hL.pair.hp.lt
  have hc0 : w.cell? ⟨p, 0, none⟩ = some (.pointer (some ⟨b, 0, none⟩)) := hL.pair.hp.cell 0
  have hpb := hL.pair.pb
  go_enter Tryz.func18, Tryz.ntmps18
  go_wp2_with fail
  go_cut [5] from 7 (fun v wx => v = .int .i64 c ∧ PAt wx b s' ∧ Wrote b (w.alloc (.cells #[.int .i64 1, .int .i64 x, .int .i64 y, .int .i64 z] 34)) wx)
  case first =>
    go_region_with (go_at_call 25; refine (hB.pd _ (PAt.drew hL1.pair.hc)).mono ?_; rintro e w3 ⟨rfl, hc3, hk3⟩)
    all_goals go_wp2_with fail
    all_goals go_meet
    all_goals exact ⟨rfl, hc3, Kept.trans (Kept.drew (Kept.refl _ _)) hk3⟩
  case rest =>
    obtain ⟨rfl, hc3, hk3⟩ := hcut
    have hp3 := hL1.pair.wrote hk3 hc3
    have hl3 := hp3.hp.lt
    have hc13 : wc.cell? ⟨p, 1, none⟩ = some (.pointer (some ⟨A.c, 0, none⟩)) := hp3.hp.cell 1
    have ho3 : BAt wc w.heap.size 34 #[.int .i64 1, .int .i64 x, .int .i64 y, .int .i64 z] := (BAt.made' _ _ rfl _ _).kept hk3 (by have := hL.pair.hc.lt; omega)
    have ho31 : wc.cell? ⟨w.heap.size, 1, none⟩ = some (.int .i64 x) := ho3.cell 1
    have ho32 : wc.cell? ⟨w.heap.size, 2, none⟩ = some (.int .i64 y) := ho3.cell 2
    have ho33 : wc.cell? ⟨w.heap.size, 3, none⟩ = some (.int .i64 z) := ho3.cell 3
    go_wp2_with fail
    go_region_with (go_at_call 26; refine (hB.rd _ A (RAt.drewN hp3.hr 1)).mono ?_; rintro e w4 ⟨rfl, A', hr4, st4⟩)
    all_goals go_wp2_with fail
    all_goals go_ret
    all_goals
      obtain ⟨hL2, hb2, st2⟩ := hL1.both (Kept.drew hk3) (PAt.drew hc3) st4 hr4 hB.n hB.sim hB.len hB.fit
      exact ⟨rfl, ⟨A', s', r', hL2, hB.n, st2.before hsw⟩, hbel.trans hb2⟩

end Go.Proofs.YtpfahgogjeignaaGreatDoor

namespace Go.Proofs.YtpfahgogjeignaaGreatDoor
open Go.RowKit
attribute [local go_sem ↓] Go.wp_at_zero Go.wp_at_succ

set_option maxRecDepth 100000 in
set_option maxHeartbeats 1000000 in
theorem moves_crash (m B0 p b : Nat) (A : RA) (s : PC) (r : RS) (x y z : Int) (w : World) (hL : Live m B0 w p b A s r) :
    Calls Tryz.prog 18 #[.pointer (some ⟨p, 0, none⟩), .agg #[.int .i64 3, .int .i64 x, .int .i64 y, .int .i64 z]] w fun e w' => e = .returned (.bool true) ∧ (∃ A' s' r', Live (m + 1) B0 w' p b A' s' r' ∧ r'.n = r.n ∧ Stepped p b b r.n A A' w w') ∧ Below B0 w w' := by
  obtain ⟨c, s', r', hB⟩ := crash_both hL.sim b x
  have hL1 := hL.same ((Kept.refl _ _).alloc (.cells #[.int .i64 3, .int .i64 x, .int .i64 y, .int .i64 z] 34))
  have hbel : Below B0 w (w.alloc (.cells #[.int .i64 3, .int .i64 x, .int .i64 y, .int .i64 z] 34)) := (Below.refl _ _).alloc hL.base _
  have hsw : Same w (w.alloc (.cells #[.int .i64 3, .int .i64 x, .int .i64 y, .int .i64 z] 34)) := (Kept.refl _ _).alloc _
  have hl := hL.pair.hp.lt
  have hc0 : w.cell? ⟨p, 0, none⟩ = some (.pointer (some ⟨b, 0, none⟩)) := hL.pair.hp.cell 0
  have hpb := hL.pair.pb
  go_enter Tryz.func18, Tryz.ntmps18
  go_wp2_with fail
  go_cut [5] from 7 (fun v wx => v = .int .i64 c ∧ PAt wx b s' ∧ Wrote b (w.alloc (.cells #[.int .i64 3, .int .i64 x, .int .i64 y, .int .i64 z] 34)) wx)
  case first =>
    go_region_with (go_at_call 29; refine (hB.pd _ (PAt.drew hL1.pair.hc)).mono ?_; rintro e w3 ⟨rfl, hc3, hk3⟩)
    all_goals go_wp2_with fail
    all_goals go_meet
    all_goals exact ⟨rfl, hc3, Kept.trans (Kept.drew (Kept.refl _ _)) hk3⟩
  case rest =>
    obtain ⟨rfl, hc3, hk3⟩ := hcut
    have hp3 := hL1.pair.wrote hk3 hc3
    have hl3 := hp3.hp.lt
    have hc13 : wc.cell? ⟨p, 1, none⟩ = some (.pointer (some ⟨A.c, 0, none⟩)) := hp3.hp.cell 1
    have ho3 : BAt wc w.heap.size 34 #[.int .i64 3, .int .i64 x, .int .i64 y, .int .i64 z] := (BAt.made' _ _ rfl _ _).kept hk3 (by have := hL.pair.hc.lt; omega)
    have ho31 : wc.cell? ⟨w.heap.size, 1, none⟩ = some (.int .i64 x) := ho3.cell 1
    have ho32 : wc.cell? ⟨w.heap.size, 2, none⟩ = some (.int .i64 y) := ho3.cell 2
    have ho33 : wc.cell? ⟨w.heap.size, 3, none⟩ = some (.int .i64 z) := ho3.cell 3
    go_wp2_with fail
    go_region_with (go_at_call 30; refine (hB.rd _ A (RAt.drewN hp3.hr 1)).mono ?_; rintro e w4 ⟨rfl, A', hr4, st4⟩)
    all_goals go_wp2_with fail
    all_goals go_ret
    all_goals
      obtain ⟨hL2, hb2, st2⟩ := hL1.both (Kept.drew hk3) (PAt.drew hc3) st4 hr4 hB.n hB.sim hB.len hB.fit
      exact ⟨rfl, ⟨A', s', r', hL2, hB.n, st2.before hsw⟩, hbel.trans hb2⟩

end Go.Proofs.YtpfahgogjeignaaGreatDoor

namespace Go.Proofs.YtpfahgogjeignaaGreatDoor
open Go.RowKit
attribute [local go_sem ↓] Go.wp_at_zero Go.wp_at_succ

set_option maxRecDepth 100000 in
set_option maxHeartbeats 1000000 in
theorem moves_start (m B0 p b : Nat) (A : RA) (s : PC) (r : RS) (x y z : Int) (w : World) (hL : Live m B0 w p b A s r) :
    Calls Tryz.prog 18 #[.pointer (some ⟨p, 0, none⟩), .agg #[.int .i64 4, .int .i64 x, .int .i64 y, .int .i64 z]] w fun e w' => e = .returned (.bool true) ∧ (∃ A' s' r', Live (m + 1) B0 w' p b A' s' r' ∧ r'.n = r.n ∧ Stepped p b b r.n A A' w w') ∧ Below B0 w w' := by
  obtain ⟨c, s', r', hB⟩ := start_both hL.sim b x
  have hL1 := hL.same ((Kept.refl _ _).alloc (.cells #[.int .i64 4, .int .i64 x, .int .i64 y, .int .i64 z] 34))
  have hbel : Below B0 w (w.alloc (.cells #[.int .i64 4, .int .i64 x, .int .i64 y, .int .i64 z] 34)) := (Below.refl _ _).alloc hL.base _
  have hsw : Same w (w.alloc (.cells #[.int .i64 4, .int .i64 x, .int .i64 y, .int .i64 z] 34)) := (Kept.refl _ _).alloc _
  have hl := hL.pair.hp.lt
  have hc0 : w.cell? ⟨p, 0, none⟩ = some (.pointer (some ⟨b, 0, none⟩)) := hL.pair.hp.cell 0
  have hpb := hL.pair.pb
  go_enter Tryz.func18, Tryz.ntmps18
  go_wp2_with fail
  go_cut [5] from 7 (fun v wx => v = .int .i64 c ∧ PAt wx b s' ∧ Wrote b (w.alloc (.cells #[.int .i64 4, .int .i64 x, .int .i64 y, .int .i64 z] 34)) wx)
  case first =>
    go_region_with (go_at_call 31; refine (hB.pd _ (PAt.drew hL1.pair.hc)).mono ?_; rintro e w3 ⟨rfl, hc3, hk3⟩)
    all_goals go_wp2_with fail
    all_goals go_meet
    all_goals exact ⟨rfl, hc3, Kept.trans (Kept.drew (Kept.refl _ _)) hk3⟩
  case rest =>
    obtain ⟨rfl, hc3, hk3⟩ := hcut
    have hp3 := hL1.pair.wrote hk3 hc3
    have hl3 := hp3.hp.lt
    have hc13 : wc.cell? ⟨p, 1, none⟩ = some (.pointer (some ⟨A.c, 0, none⟩)) := hp3.hp.cell 1
    have ho3 : BAt wc w.heap.size 34 #[.int .i64 4, .int .i64 x, .int .i64 y, .int .i64 z] := (BAt.made' _ _ rfl _ _).kept hk3 (by have := hL.pair.hc.lt; omega)
    have ho31 : wc.cell? ⟨w.heap.size, 1, none⟩ = some (.int .i64 x) := ho3.cell 1
    have ho32 : wc.cell? ⟨w.heap.size, 2, none⟩ = some (.int .i64 y) := ho3.cell 2
    have ho33 : wc.cell? ⟨w.heap.size, 3, none⟩ = some (.int .i64 z) := ho3.cell 3
    go_wp2_with fail
    go_region_with (go_at_call 32; refine (hB.rd _ A (RAt.drewN hp3.hr 1)).mono ?_; rintro e w4 ⟨rfl, A', hr4, st4⟩)
    all_goals go_wp2_with fail
    all_goals go_ret
    all_goals
      obtain ⟨hL2, hb2, st2⟩ := hL1.both (Kept.drew hk3) (PAt.drew hc3) st4 hr4 hB.n hB.sim hB.len hB.fit
      exact ⟨rfl, ⟨A', s', r', hL2, hB.n, st2.before hsw⟩, hbel.trans hb2⟩

end Go.Proofs.YtpfahgogjeignaaGreatDoor

namespace Go.Proofs.YtpfahgogjeignaaGreatDoor
open Go.RowKit
attribute [local go_sem ↓] Go.wp_at_zero Go.wp_at_succ

set_option maxRecDepth 100000 in
set_option maxHeartbeats 1000000 in
theorem moves_link (m B0 p b : Nat) (A : RA) (s : PC) (r : RS) (x y z : Int) (w : World) (hL : Live m B0 w p b A s r) :
    Calls Tryz.prog 18 #[.pointer (some ⟨p, 0, none⟩), .agg #[.int .i64 2, .int .i64 x, .int .i64 y, .int .i64 z]] w fun e w' => e = .returned (.bool true) ∧ (∃ A' s' r', Live (m + 1) B0 w' p b A' s' r' ∧ r'.n = r.n ∧ Stepped p b b r.n A A' w w') ∧ Below B0 w w' := by
  obtain ⟨c, s', r', hB⟩ := link_both hL.sim b x y z
  have hL1 := hL.same ((Kept.refl _ _).alloc (.cells #[.int .i64 2, .int .i64 x, .int .i64 y, .int .i64 z] 34))
  have hbel : Below B0 w (w.alloc (.cells #[.int .i64 2, .int .i64 x, .int .i64 y, .int .i64 z] 34)) := (Below.refl _ _).alloc hL.base _
  have hsw : Same w (w.alloc (.cells #[.int .i64 2, .int .i64 x, .int .i64 y, .int .i64 z] 34)) := (Kept.refl _ _).alloc _
  have hop : BAt (w.alloc (.cells #[.int .i64 2, .int .i64 x, .int .i64 y, .int .i64 z] 34)) w.heap.size 34 #[.int .i64 2, .int .i64 x, .int .i64 y, .int .i64 z] := BAt.made' _ _ rfl _ _
  have hbl := hL.pair.hc.lt
  have hopA : ¬ A.in r.n w.heap.size := fun hx => Nat.lt_irrefl _ (hL.pair.hr.in_lt _ hx)
  have hpb := hL.pair.pb
  clear hL
  go_enter Tryz.func18, Tryz.ntmps18
  go_wp2_with fail
  generalize w.alloc (.cells #[.int .i64 2, .int .i64 x, .int .i64 y, .int .i64 z] 34) = W1 at *
  have o1 : W1.cell? ⟨w.heap.size, 1, none⟩ = some (.int .i64 x) := hop.cell 1
  have o2 : W1.cell? ⟨w.heap.size, 2, none⟩ = some (.int .i64 y) := hop.cell 2
  have o3 : W1.cell? ⟨w.heap.size, 3, none⟩ = some (.int .i64 z) := hop.cell 3
  have hc0 : W1.cell? ⟨p, 0, none⟩ = some (.pointer (some ⟨b, 0, none⟩)) := hL1.pair.hp.cell 0
  go_cut [5] from 7 (fun v1 wx => v1 = .int .i64 c ∧ PAt wx b s' ∧ Wrote b W1 wx)
  case first =>
    go_region_held3 (fun w' => w'.cell? ⟨p, 0, none⟩ = some (.pointer (some ⟨b, 0, none⟩)) ∧ w'.cell? ⟨w.heap.size, 1, none⟩ = some (.int .i64 x) ∧ w'.cell? ⟨w.heap.size, 2, none⟩ = some (.int .i64 y) ∧ w'.cell? ⟨w.heap.size, 3, none⟩ = some (.int .i64 z)) (go_keep) (first | (go_at_call 27; refine (hB.pd _ (PAt.drew hL1.pair.hc)).mono ?_; rintro e w3 ⟨rfl, hc3, hk3⟩; have hop3 := (BAt.drew hop).kept hk3 (by omega); have hpp3 := (BAt.drew hL1.pair.hp).kept hk3 hpb; have y0 : w3.cell? ⟨p, 0, none⟩ = some (.pointer (some ⟨b, 0, none⟩)) := hpp3.cell 0; have y1 : w3.cell? ⟨w.heap.size, 1, none⟩ = some (.int .i64 x) := hop3.cell 1; have y2 : w3.cell? ⟨w.heap.size, 2, none⟩ = some (.int .i64 y) := hop3.cell 2; have y3 : w3.cell? ⟨w.heap.size, 3, none⟩ = some (.int .i64 z) := hop3.cell 3))
    all_goals go_wp2_with fail
    all_goals go_meet
    all_goals exact ⟨rfl, hc3, Kept.trans (Kept.drew (Kept.refl _ _)) hk3⟩
  case rest =>
    obtain ⟨rfl, hc3, hk3⟩ := hcut
    have hp3 := hL1.pair.wrote hk3 hc3
    have hc13 : wc.cell? ⟨p, 1, none⟩ = some (.pointer (some ⟨A.c, 0, none⟩)) := hp3.hp.cell 1
    have ho3 := hop.kept hk3 (by omega)
    have ho31 : wc.cell? ⟨w.heap.size, 1, none⟩ = some (.int .i64 x) := ho3.cell 1
    have ho32 : wc.cell? ⟨w.heap.size, 2, none⟩ = some (.int .i64 y) := ho3.cell 2
    have ho33 : wc.cell? ⟨w.heap.size, 3, none⟩ = some (.int .i64 z) := ho3.cell 3
    clear o1 o2 o3 hc0
    go_wp2_with fail
    go_region_held3 (fun w' => w'.cell? ⟨p, 1, none⟩ = some (.pointer (some ⟨A.c, 0, none⟩)) ∧ w'.cell? ⟨w.heap.size, 1, none⟩ = some (.int .i64 x) ∧ w'.cell? ⟨w.heap.size, 2, none⟩ = some (.int .i64 y) ∧ w'.cell? ⟨w.heap.size, 3, none⟩ = some (.int .i64 z)) (go_keep) (first | (go_at_call 28; refine (hB.rd _ A (RAt.drewN hp3.hr 1)).mono ?_; rintro e w4 ⟨rfl, A', hr4, st4⟩; have hop4 := (BAt.drew ho3).kept st4.kept (fun hx => hopA hx); have hpp4 := (BAt.drew hp3.hp).kept st4.kept hp3.pr; have y0 : w4.cell? ⟨p, 1, none⟩ = some (.pointer (some ⟨A.c, 0, none⟩)) := hpp4.cell 1; have y1 : w4.cell? ⟨w.heap.size, 1, none⟩ = some (.int .i64 x) := hop4.cell 1; have y2 : w4.cell? ⟨w.heap.size, 2, none⟩ = some (.int .i64 y) := hop4.cell 2; have y3 : w4.cell? ⟨w.heap.size, 3, none⟩ = some (.int .i64 z) := hop4.cell 3))
    all_goals go_wp2_with fail
    all_goals go_ret
    all_goals
      obtain ⟨hL2, hb2, st2⟩ := hL1.both (Kept.drew hk3) (PAt.drew hc3) st4 hr4 hB.n hB.sim hB.len hB.fit
      exact ⟨rfl, ⟨A', s', r', hL2, hB.n, st2.before hsw⟩, hbel.trans hb2⟩

end Go.Proofs.YtpfahgogjeignaaGreatDoor

namespace Go.Proofs.YtpfahgogjeignaaGreatDoor
open Go.RowKit
attribute [local go_sem ↓] Go.wp_at_zero Go.wp_at_succ

set_option maxRecDepth 100000 in
set_option maxHeartbeats 1000000 in
theorem works_campaign (m B0 p b : Nat) (A : RA) (s : PC) (r : RS) (x y z : Int) (w : World) (hL : Live m B0 w p b A s r) :
    Calls Tryz.prog 19 #[.pointer (some ⟨p, 0, none⟩), .agg #[.int .i64 5, .int .i64 x, .int .i64 y, .int .i64 z]] w fun e w' => e = .returned (.bool true) ∧ (∃ A' s' r', Live (m + 1) B0 w' p b A' s' r' ∧ r'.n = r.n ∧ Stepped p b b r.n A A' w w') ∧ Below B0 w w' := by
  obtain ⟨v, c, s', r', hB⟩ := campaign_both hL.sim b x
  have hL1 := hL.same ((Kept.refl _ _).alloc (.cells #[.int .i64 5, .int .i64 x, .int .i64 y, .int .i64 z] 34))
  have hbel : Below B0 w (w.alloc (.cells #[.int .i64 5, .int .i64 x, .int .i64 y, .int .i64 z] 34)) := (Below.refl _ _).alloc hL.base _
  have hsw : Same w (w.alloc (.cells #[.int .i64 5, .int .i64 x, .int .i64 y, .int .i64 z] 34)) := (Kept.refl _ _).alloc _
  have hl := hL.pair.hp.lt
  have hc0 : w.cell? ⟨p, 0, none⟩ = some (.pointer (some ⟨b, 0, none⟩)) := hL.pair.hp.cell 0
  have hpb := hL.pair.pb
  go_enter Tryz.func19, Tryz.ntmps19
  go_wp2_with fail
  go_cut [5, 7] from 9 (fun v1 c1 wx => v1 = .int .i64 v ∧ c1 = .int .i64 c ∧ PAt wx b s' ∧ Wrote b (w.alloc (.cells #[.int .i64 5, .int .i64 x, .int .i64 y, .int .i64 z] 34)) wx)
  case first =>
    go_region_with (go_at_call 33; refine (hB.pd _ (PAt.drew hL1.pair.hc)).mono ?_; rintro e w3 ⟨rfl, hc3, hk3⟩)
    all_goals go_wp2_with fail
    all_goals go_meet
    all_goals exact ⟨rfl, rfl, hc3, Kept.trans (Kept.drew (Kept.refl _ _)) hk3⟩
  case rest =>
    obtain ⟨rfl, rfl, hc3, hk3⟩ := hcut
    have hp3 := hL1.pair.wrote hk3 hc3
    have hl3 := hp3.hp.lt
    have hc13 : wc.cell? ⟨p, 1, none⟩ = some (.pointer (some ⟨A.c, 0, none⟩)) := hp3.hp.cell 1
    have ho3 : BAt wc w.heap.size 34 #[.int .i64 5, .int .i64 x, .int .i64 y, .int .i64 z] := (BAt.made' _ _ rfl _ _).kept hk3 (by have := hL.pair.hc.lt; omega)
    have ho31 : wc.cell? ⟨w.heap.size, 1, none⟩ = some (.int .i64 x) := ho3.cell 1
    go_wp2_with fail
    go_region_with (go_at_call 34; refine (hB.rd _ A (RAt.drewN hp3.hr 1)).mono ?_; rintro e w4 ⟨rfl, A', hr4, st4⟩)
    all_goals go_wp2_with fail
    all_goals go_ret
    all_goals
      obtain ⟨hL2, hb2, st2⟩ := hL1.both (Kept.drew hk3) (PAt.drew hc3) st4 hr4 hB.n hB.sim hB.len hB.fit
      exact ⟨rfl, ⟨A', s', r', hL2, hB.n, st2.before hsw⟩, hbel.trans hb2⟩

end Go.Proofs.YtpfahgogjeignaaGreatDoor
