/-
  Waited: its walk.
-/
import Derived.Test.YtpfahgogjeignabWaitB
import Derived.Test.YtpfahgogjeignabPick
set_option linter.unusedVariables false
set_option linter.unusedSimpArgs false
namespace Go.Proofs.Ytpfahgogjeignab
open Go.RowKit
attribute [local go_sem ↓] Go.wp_at_zero Go.wp_at_succ

theorem pick_nat {c : Int} {n : Nat} (hn : 0 < n) : ∃ k : Nat, k < n ∧ pickOf c (n : Int) = (k : Int) := by
  have := pickOf_bd (c := c) (n := (n : Int)) (by omega)
  exact ⟨(pickOf c (n : Int)).toNat, by omega, by omega⟩
/-- The wait, where nothing is wrong. -/
theorem wait_at (b : Nat) (s : PC) (ok : s.Ok) (i k : Nat) (cost : Int) (hi : i < 2) (hk : (k : Int) < s.count) (c0 : 1 ≤ cost) (c1 : cost ≤ 2000000) (w : World) (h : PAt w b s) :
    Calls Try.prog 8 #[.pointer (some ⟨b, 0, none⟩), .int .i64 (i : Int), .int .i64 (k : Int), .int .i64 cost] w fun e w' => e = .returned (.tuple #[.int .i64 (waitOf (s.lev i k) (cost - s.win i k) (s.rate k) (s.burst k - s.window)), .int .i64 0]) ∧ Same w w' := by
  have hwr : s.wrong (i : Int) (k : Int) cost = 0 := by
    unfold PC.wrong
    rw [if_pos (by rcases lt2n hi with rfl | rfl <;> rfl), if_pos (by simp [hasTenantB]; omega), if_pos ⟨c0, c1⟩]
  have := wait_yes b s (i : Int) (k : Int) cost hwr (by omega) (by omega) (by omega) hk c0 c1 ok w h
  rw [Int.toNat_natCast, Int.toNat_natCast] at this
  exact this

set_option maxRecDepth 100000 in
set_option maxHeartbeats 1000000 in
theorem waited_no (le wi ten cost : Int) (a sa : Option Addr) (n cap sn scap : Nat) (R B : Nat → Int) (w : World) (hT : Ten w a n R B) (hn : n * 16 ≤ 140737488355328) (no : ¬ Good le wi n R B) :
    Calls Try.prog 3 #[.agg #[.int .i64 le, .int .i64 wi, .slice a n cap], .slice sa sn scap, .int .i64 ten, .int .i64 cost] w fun e w' => e = .returned (.bool true) ∧ Below w.heap.size w w' := by
  have hS1 : Same w (w.alloc (.cells #[.int .i64 le, .int .i64 wi, .slice a n cap] 24)) := Kept.alloc (Kept.refl _ _) _
  have HO : Hid (Calls Try.prog 5 #[.agg #[.int .i64 le, .int .i64 wi, .slice a n cap], .slice sa sn scap] (w.alloc (.cells #[.int .i64 le, .int .i64 wi, .slice a n cap] 24)) fun e w' => ∃ t, e = .returned (.tuple #[.pointer none, .pointer (some ⟨t, 0, none⟩), .bool true]) ∧ Same (w.alloc (.cells #[.int .i64 le, .int .i64 wi, .slice a n cap] 24)) w') := troubled_no le wi a sa n cap sn scap R B _ (hT.same hS1) hn no
  clear hT hn no
  go_enter Try.func3, Try.ntmps3
  go_wp2_with fail
  refine HO.out.mono ?_
  rintro e w2 ⟨t, rfl, hk2⟩
  go_wp2_with fail
  go_ret
  exact ⟨rfl, (hS1.trans hk2).below (Nat.le_refl _) (fun _ _ h => h)⟩

set_option maxRecDepth 100000 in
set_option maxHeartbeats 4000000 in
theorem waited_yes (le wi ten cost : Int) (ti : InW ten) (ci : InW cost) (a sa : Option Addr) (n cap sn scap : Nat) (R B K X Y Z : Nat → Int) (w : World) (hT : Ten w a n R B) (hn : n * 16 ≤ 140737488355328) (hsn : sn * 32 ≤ 140737488355328) (hS : Scr w sa sn K X Y Z) (ok : Good le wi n R B) :
    Calls Try.prog 3 #[.agg #[.int .i64 le, .int .i64 wi, .slice a n cap], .slice sa sn scap, .int .i64 ten, .int .i64 cost] w fun e w' => e = .returned (.bool true) ∧ Below w.heap.size w w' := by
  have hS1 : Same w (w.alloc (.cells #[.int .i64 le, .int .i64 wi, .slice a n cap] 24)) := Kept.alloc (Kept.refl _ _) _
  have hB1 := BAt.made' w w.heap.size rfl 24 #[.int .i64 le, .int .i64 wi, .slice a n cap]
  have HO : Hid (Calls Try.prog 5 #[.agg #[.int .i64 le, .int .i64 wi, .slice a n cap], .slice sa sn scap] (w.alloc (.cells #[.int .i64 le, .int .i64 wi, .slice a n cap] 24)) fun e w' => ∃ b t, e = .returned (.tuple #[.pointer (some ⟨b, 0, none⟩), .pointer (some ⟨t, 0, none⟩), .bool true]) ∧ (w.alloc (.cells #[.int .i64 le, .int .i64 wi, .slice a n cap] 24)).heap.size ≤ b ∧ (w.alloc (.cells #[.int .i64 le, .int .i64 wi, .slice a n cap] 24)).heap.size ≤ t ∧ b ≠ t ∧ PAt w' b ((PC.fresh le wi n R B n 2 (-1)).runTo K X Y Z sn) ∧ ClockAt w' t ((PC.fresh le wi n R B n 2 (-1)).runTo K X Y Z sn).now ∧ Same (w.alloc (.cells #[.int .i64 le, .int .i64 wi, .slice a n cap] 24)) w') := troubled_yes le wi a sa n cap sn scap R B K X Y Z _ (hT.same hS1) hn hsn (hS.same (hS1.below (Nat.le_refl _) (fun _ _ h => h))) ok
  have hsa := runTo_sane (sane_fresh ok) K X Y Z sn
  have hfx := runTo_fx (PC.fresh le wi n R B n 2 (-1)) K X Y Z sn
  have hct : ((PC.fresh le wi n R B n 2 (-1)).runTo K X Y Z sn).count = (n : Int) := (fix_count hfx).1
  have hle : ((PC.fresh le wi n R B n 2 (-1)).runTo K X Y Z sn).lease = le := (fix_count hfx).2
  have n0 : 0 < n := Nat.pos_of_ne_zero ok.ten.1
  have n4 : (n : Int) ≤ 4 := by have := hsa.ok.count1; omega
  clear hT hn hsn hS hfx ok
  generalize (PC.fresh le wi n R B n 2 (-1)).runTo K X Y Z sn = st at *
  obtain ⟨kn, hkn, ek⟩ := pick_nat (c := ten) n0
  have hpc := pickOf_bd (c := cost) (n := 1200000) (by omega)
  have HK : Hid (∀ W, Calls Try.prog 7 #[.int .i64 ten, .int .i64 (n : Int)] W fun e w' => e = .returned (.int .i64 (kn : Int)) ∧ w' = W) := by
    intro W
    have := pick_any ten (n : Int) ti.1 ti.2 (by omega) (by omega) W
    rw [ek] at this
    exact this
  have HC : Hid (∀ W, Calls Try.prog 7 #[.int .i64 cost, .int .i64 1200000] W fun e w' => e = .returned (.int .i64 (pickOf cost 1200000)) ∧ w' = W) := fun W => pick_any cost 1200000 ci.1 ci.2 (by omega) (by omega) W
  generalize pickOf cost 1200000 = pc at *
  have l0 := hsa.ok.lease0
  have l1 := hsa.ok.lease1
  rw [hle] at l0 l1
  clear ek ti ci
  go_enter Try.func3, Try.ntmps3
  go_wp2_with fail
  refine HO.out.mono ?_
  rintro e w2 ⟨b, t, rfl, hb0, ht0, hbt, hp2, hc2, hk2⟩
  have hB2 := hB1.kept hk2 (fun h => h)
  have hb1 : w.heap.size + 1 ≤ b := by simpa using hb0
  have ht1 : w.heap.size + 1 ≤ t := by simpa using ht0
  have hS2 := hS1.trans hk2
  have c0 : w2.cell? ⟨w.heap.size, 0, none⟩ = some (.int .i64 le) := hB2.cell 0
  have HS2 : Hid (Same w w2) := hS2
  have hw2 := hS2.size
  clear HO hb0 ht0 hk2 hS1 hB1 hS2
  go_wp2_with fail
  by_cases hlate : 1000000000000 - st.lease < st.now
  · have HH := healed_late b t st hsa hbt hlate w2 hp2 hc2
    rw [hle] at HH
    refine HH.mono ?_
    rintro e w3 ⟨rfl, hk3⟩
    go_wp2_with fail
    go_ret
    refine ⟨rfl, (HS2.out.below (Nat.le_refl _) (fun _ _ h => h)).trans (hk3.below hw2 (fun q hq e => ?_))⟩
    rcases e with e | e <;> omega
  · have HH := healed_yes b t st hsa hbt (by omega) w2 hp2 hc2
    rw [hle] at HH
    refine HH.mono ?_
    rintro e w3 ⟨i, s3, rfl, led, fx3, hp3, hc3, hk3⟩
    have hB3 := hB2.kept hk3 (by rintro (e | e) <;> omega)
    have d2 : w3.cell? ⟨w.heap.size, 2, none⟩ = some (.slice a n cap) := hB3.cell 2
    have bel3 : Below w.heap.size w w3 := (HS2.out.below (Nat.le_refl _) (fun _ _ h => h)).trans (hk3.below hw2 (fun q hq e => by rcases e with e | e <;> omega))
    have hi := led.i2
    have hc3n : (n : Int) = s3.count := by rw [(fix_count fx3).1, hct]
    have hcost0 : 1 ≤ 1 + pc := by omega
    have hcost1 : 1 + pc ≤ 2000000 := by omega
    have HW : Hid (∀ W, PAt W b s3 → Calls Try.prog 8 #[.pointer (some ⟨b, 0, none⟩), .int .i64 (i : Int), .int .i64 (kn : Int), .int .i64 (1 + pc)] W fun e w' => e = .returned (.tuple #[.int .i64 (waitOf (s3.lev i kn) ((1 + pc) - s3.win i kn) (s3.rate kn) (s3.burst kn - s3.window)), .int .i64 0]) ∧ Same W w') := fun W hW => wait_at b s3 led.held.ok i kn (1 + pc) hi (by omega) hcost0 hcost1 W hW
    have hrm := led.held.ok.burst1 kn
    have hwd := led.held.ok.win0
    have hbd := waitOf_bd (need := (1 + pc) - s3.win i kn) (led.held.ok.lev0 i kn) (show s3.burst kn - s3.window ≤ 1000000 by omega) (led.held.ok.rate0 kn)
    have WW : Hid (∀ d, d = waitOf (s3.lev i kn) ((1 + pc) - s3.win i kn) (s3.rate kn) (s3.burst kn - s3.window) → s3.now ≤ 1000000000000 - d - 2000 → (d = -1 → ((s3.later 1000 i).asked i kn (1 + pc)).1 = 6) ∧ (d = 0 → ((s3.later 0 i).asked i kn (1 + pc)).1 = 5) ∧ (1 ≤ d → (s3.later (d - 1) i).asked i kn (1 + pc) = (6, s3.later (d - 1) i) ∧ (((s3.later (d - 1) i).later 1 i).asked i kn (1 + pc)).1 = 5)) := fun d hd ht => waits_well led kn (by omega) (1 + pc) hcost0 hcost1 d hd ht
    have n30 := led.held.ok.now0
    have n31 := led.held.ok.now1
    generalize waitOf (s3.lev i kn) ((1 + pc) - s3.win i kn) (s3.rate kn) (s3.burst kn - s3.window) = d at *
    obtain ⟨d0, d1⟩ := hbd
    have HLD : Hid (Led s3 i) := led
    have BEL3 : Hid (Below w.heap.size w w3) := bel3
    have hsz3 := bel3.size
    have hneg : decide ((i : Int) < 0) = false := decide_eq_false (by omega)
    clear HH hk3 hp2 hc2 hB2 c0 HS2 hrm hwd led bel3 fx3 hct hsa hle hlate
    have HCN : Hid ((n : Int) = s3.count) := hc3n
    clear hc3n
    go_wp2_with fail
    refine (HK.out _).mono ?_
    rintro e w4 ⟨rfl, rfl⟩
    go_wp2_with fail
    refine (HC.out _).mono ?_
    rintro e w5 ⟨rfl, rfl⟩
    clear HK HC hB3 d2
    have hp5 := PAt.alloc hp3 (.cells #[.int .i64 0, .int .i64 i, .int .i64 kn, .int .i64 (1 + pc)] 33)
    have hc5 := BAt.alloc hc3 (.cells #[.int .i64 0, .int .i64 i, .int .i64 kn, .int .i64 (1 + pc)] 33)
    have ho5 := BAt.made' w5 w5.heap.size rfl 33 #[.int .i64 0, .int .i64 i, .int .i64 kn, .int .i64 (1 + pc)]
    have q5 := Kept.alloc (Kept.refl (fun _ => False) w5) (.cells #[.int .i64 0, .int .i64 i, .int .i64 kn, .int .i64 (1 + pc)] 33)
    have bel5 := BEL3.out.trans (q5.below hsz3 (fun q hq e => e))
    have hpl := hp3.lt
    have htl := BAt.lt hc3
    clear hp3 hc3 BEL3 q5
    go_wp2_with fail
    generalize w5.alloc (.cells #[.int .i64 0, .int .i64 i, .int .i64 kn, .int .i64 (1 + pc)] 33) = W6 at *
    generalize w5.heap.size = g at *
    refine (HW.out _ hp5).mono ?_
    rintro e w7 ⟨rfl, hk7⟩
    have hp7 := hp5.same hk7
    have hc7 := ClockAt.kept hc5 hk7 (fun h => h)
    have ho7 := ho5.kept hk7 (fun h => h)
    have bel7 := bel5.trans (hk7.below bel5.size (fun q hq e => e))
    have u0 : w7.cell? ⟨t, 0, none⟩ = some (.int .i64 s3.now) := hc7.cell0
    have y0 : w7.cell? ⟨g, 0, none⟩ = some (.int .i64 0) := ho7.cell 0
    have y1 : w7.cell? ⟨g, 1, none⟩ = some (.int .i64 i) := ho7.cell 1
    have y2 : w7.cell? ⟨g, 2, none⟩ = some (.int .i64 kn) := ho7.cell 2
    have y3 : w7.cell? ⟨g, 3, none⟩ = some (.int .i64 (1 + pc)) := ho7.cell 3
    have dm : decide (d < -1) = false := decide_eq_false (by omega)
    have dM : decide (d > 1000000) = false := decide_eq_false (by omega)
    have BEL7 : Hid (Below w.heap.size w w7) := bel7
    have hsz7 := bel7.size
    have AS : Hid (∀ (s : PC) (ticks want : Int), Held s i → (n : Int) = s.count → 0 ≤ ticks → ticks ≤ 1000000000000 - s.now → ((s.later ticks i).asked i kn (1 + pc)).1 = want → ∀ W, PAt W b s → Calls Try.prog 9 #[.pointer (some ⟨b, 0, none⟩), .int .i64 ticks, .agg #[.int .i64 0, .int .i64 i, .int .i64 kn, .int .i64 (1 + pc)], .int .i64 want] W fun e w' => e = .returned (.bool true) ∧ PAt w' b ((s.later ticks i).asked i kn (1 + pc)).2 ∧ Wrote b W w') := fun s ticks want h1 h2 h3 h4 h5 W hW => asked_any b s i kn 0 ticks (1 + pc) want h1 hi h3 h4 (by omega) hcost0 hcost1 h5 W hW
    clear hp5 hc5 ho5 bel5 hk7 bel7 HW
    by_cases hfar : 1000000000000 - d - 2000 < s3.now
    · go_wp2_with fail
      go_ret
      exact ⟨rfl, BEL7.out⟩
    · have hnf : decide (s3.now > 1000000000000 - d - 2000) = false := decide_eq_false (by omega)
      obtain ⟨W1, W2, W3⟩ := WW.out d rfl (by omega)
      by_cases e1 : d = -1
      · have ee : (d == -1) = true := by simp [e1]
        have A1 : Hid (∀ W, PAt W b s3 → Calls Try.prog 9 #[.pointer (some ⟨b, 0, none⟩), .int .i64 1000, .agg #[.int .i64 0, .int .i64 i, .int .i64 kn, .int .i64 (1 + pc)], .int .i64 6] W fun e w' => e = .returned (.bool true) ∧ PAt w' b ((s3.later 1000 i).asked i kn (1 + pc)).2 ∧ Wrote b W w') := AS.out s3 1000 6 HLD.out.held HCN.out (by omega) (by omega) (W1 e1)
        clear W1 W2 W3 WW AS e1 HLD HCN
        go_wp2_with fail
        refine (A1.out _ hp7).mono ?_
        rintro e w8 ⟨rfl, _, hk8⟩
        go_wp2_with fail
        go_ret
        exact ⟨rfl, BEL7.out.trans (hk8.below hsz7 (fun q hq e => by omega))⟩
      · have ee : (d == -1) = false := by simp [e1]
        by_cases e2 : d = 0
        · have ef : (d == 0) = true := by simp [e2]
          have A1 : Hid (∀ W, PAt W b s3 → Calls Try.prog 9 #[.pointer (some ⟨b, 0, none⟩), .int .i64 0, .agg #[.int .i64 0, .int .i64 i, .int .i64 kn, .int .i64 (1 + pc)], .int .i64 5] W fun e w' => e = .returned (.bool true) ∧ PAt w' b ((s3.later 0 i).asked i kn (1 + pc)).2 ∧ Wrote b W w') := AS.out s3 0 5 HLD.out.held HCN.out (by omega) (by omega) (W2 e2)
          clear W1 W2 W3 WW AS e1 e2 HLD HCN
          go_wp2_with fail
          refine (A1.out _ hp7).mono ?_
          rintro e w8 ⟨rfl, _, hk8⟩
          go_wp2_with fail
          go_ret
          exact ⟨rfl, BEL7.out.trans (hk8.below hsz7 (fun q hq e => by omega))⟩
        · have ef : (d == 0) = false := by simp [e2]
          obtain ⟨v1, v2⟩ := W3 (by omega)
          have A1 := AS.out s3 (d - 1) 6 HLD.out.held HCN.out (by omega) (by omega) (by rw [v1])
          rw [v1] at A1
          have lt := later_is HLD.out.held hi (d - 1) (by omega) (by omega) kn (by have := HCN.out; omega) (1 + pc) hcost0 hcost1
          have A2 := AS.out (s3.later (d - 1) i) 1 5 lt.2.1 (by rw [(fix_count lt.2.2.2.2.1).1]; exact HCN.out) (by omega) (by rw [lt.2.2.2.1]; omega) v2
          have A1' : Hid (∀ W, PAt W b s3 → Calls Try.prog 9 #[.pointer (some ⟨b, 0, none⟩), .int .i64 (d - 1), .agg #[.int .i64 0, .int .i64 i, .int .i64 kn, .int .i64 (1 + pc)], .int .i64 6] W fun e w' => e = .returned (.bool true) ∧ PAt w' b (s3.later (d - 1) i) ∧ Wrote b W w') := A1
          have A2' : Hid (∀ W, PAt W b (s3.later (d - 1) i) → Calls Try.prog 9 #[.pointer (some ⟨b, 0, none⟩), .int .i64 1, .agg #[.int .i64 0, .int .i64 i, .int .i64 kn, .int .i64 (1 + pc)], .int .i64 5] W fun e w' => e = .returned (.bool true) ∧ PAt w' b (((s3.later (d - 1) i).later 1 i).asked i kn (1 + pc)).2 ∧ Wrote b W w') := A2
          clear W1 W2 W3 WW AS e1 e2 HLD HCN A1 A2 lt v1 v2
          go_wp2_with fail
          refine (A1'.out _ hp7).mono ?_
          rintro e w8 ⟨rfl, hp8, hk8⟩
          have ho8 := ho7.kept hk8 (by omega)
          have z0 : w8.cell? ⟨g, 0, none⟩ = some (.int .i64 0) := ho8.cell 0
          have z1 : w8.cell? ⟨g, 1, none⟩ = some (.int .i64 i) := ho8.cell 1
          have z2 : w8.cell? ⟨g, 2, none⟩ = some (.int .i64 kn) := ho8.cell 2
          have z3 : w8.cell? ⟨g, 3, none⟩ = some (.int .i64 (1 + pc)) := ho8.cell 3
          have hsz8 := hk8.size
          go_wp2_with fail
          refine (A2'.out _ hp8).mono ?_
          rintro e w9 ⟨rfl, _, hk9⟩
          go_wp2_with fail
          go_ret
          exact ⟨rfl, (BEL7.out.trans (hk8.below hsz7 (fun q hq e => by omega))).trans (hk9.below (by omega) (fun q hq e => by omega))⟩

theorem waited_walk (le wi ten cost : Int) (ti : InW ten) (ci : InW cost) (a sa : Option Addr) (n cap sn scap : Nat) (R B K X Y Z : Nat → Int) (w : World) (hT : Ten w a n R B) (hn : n * 16 ≤ 140737488355328) (hsn : sn * 32 ≤ 140737488355328) (hS : Scr w sa sn K X Y Z) :
    Calls Try.prog 3 #[.agg #[.int .i64 le, .int .i64 wi, .slice a n cap], .slice sa sn scap, .int .i64 ten, .int .i64 cost] w fun e w' => e = .returned (.bool true) ∧ Below w.heap.size w w' := by
  rcases Classical.em (Good le wi n R B) with g | no
  · exact waited_yes le wi ten cost ti ci a sa n cap sn scap R B K X Y Z w hT hn hsn hS g
  · exact waited_no le wi ten cost a sa n cap sn scap R B w hT hn no

end Go.Proofs.Ytpfahgogjeignab
