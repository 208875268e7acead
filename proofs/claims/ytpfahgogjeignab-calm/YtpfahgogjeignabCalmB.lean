/-
  Calm: its walk.
-/
import Derived.Test.YtpfahgogjeignabCalmA
import Derived.Test.YtpfahgogjeignabPick
set_option linter.unusedVariables false
set_option linter.unusedSimpArgs false
namespace Go.Proofs.Ytpfahgogjeignab
open Go.RowKit
attribute [local go_sem ↓] Go.wp_at_zero Go.wp_at_succ

/-- Node i has the lease, all works, nobody acts alone. -/
structure CalA (s : PC) (i n : Nat) (le now : Int) : Prop where
  held : Held s i
  has : s.hasLease i = true
  cal : Cal s i n le now
theorem calA_joined {s : PC} {i n : Nat} {le now : Int} (h : Led s i) (hc : s.count = (n : Int)) (hl : s.lease = le) (hn : s.now = now) : (s.joined i).1 = 3 ∧ CalA (s.joined i).2 i n le now ∧ ∀ k, (s.joined i).2.lev 0 k = (s.joined i).2.lev 1 k := by
  obtain ⟨a1, a2, a3, a4, a5, a6, a7, a8, a9, a10, _⟩ := held_joined h.held h.i2 h.has
  refine ⟨a1, ⟨a2, a3, a2.ok, a2.up, a2.link, a2.holder, a4, ?_, ?_, ?_, ?_⟩, fun k => ?_⟩
  · rw [a7, h.wt, hl, hn]
  · rw [a9, hc]
  · rw [a10, hl]
  · rw [a8, hn]
  · rcases lt2n h.i2 with rfl | rfl
    · rw [a6, a5]
    · rw [a5, a6]
theorem calA_asked {s : PC} {i n : Nat} {le now : Int} (h : CalA s i n le now) (hi : i < 2) (k : Nat) (cost : Int) (c0 : 1 ≤ cost) (c1 : cost ≤ 2000000) : ((s.asked i k cost).1 = 5 ∨ (s.asked i k cost).1 = 6) ∧ CalA (s.asked i k cost).2 i n le now := by
  obtain ⟨a1, a2, a3, a4, a5, a6, a7, a8, a9, _⟩ := held_asked h.held hi h.has k cost c0 c1
  refine ⟨?_, ⟨a3, a4, a3.ok, a3.up, a3.link, a3.holder, ?_, ?_, ?_, ?_, ?_⟩⟩
  · by_cases q : s.lev i k < cost - s.win i k
    · rw [a1 q]; exact .inr rfl
    · exact .inl (a2 q)
  · rw [a5, h.cal.solo]
  · rw [a6, h.cal.wt]
  · rw [a8, h.cal.cnt]
  · rw [a9, h.cal.lease]
  · rw [a7, h.cal.nw]
theorem ask_at2 (b : Nat) (s : PC) (i k : Nat) (cost : Int) (ok : s.Ok) (hi : i < 2) (hu : s.up i = true) (hk : (k : Int) < s.count) (c0 : 1 ≤ cost) (c1 : cost ≤ 2000000) (w : World) (h : PAt w b s) :
    Calls Try.prog 13 #[.pointer (some ⟨b, 0, none⟩), .int .i64 (i : Int), .int .i64 (k : Int), .int .i64 cost] w fun e w' => e = .returned (.tuple #[.int .i64 (s.asked i k cost).1, .int .i64 0]) ∧ PAt w' b (s.asked i k cost).2 ∧ Wrote b w w' := by
  have hwr : s.wrong (i : Int) (k : Int) cost = 0 := by
    unfold PC.wrong
    rw [if_pos (by rcases lt2n hi with rfl | rfl <;> rfl), if_pos (by simp [hasTenantB]; omega), if_pos ⟨c0, c1⟩]
  have := ask_yes b s (i : Int) (k : Int) cost hwr (by omega) (by omega) (by rw [Int.toNat_natCast]; exact hu) (by omega) hk c0 c1 ok w h
  rw [Int.toNat_natCast, Int.toNat_natCast] at this
  exact this
/-- What comes behind the crash: the other is refused, then granted, then decides. -/
structure After (b i : Nat) (le now cost : Int) (s : PC) : Prop where
  crash : ∀ W, PAt W b s → Calls Try.prog 15 #[.pointer (some ⟨b, 0, none⟩), .int .i64 (i : Int)] W fun e' w' => e' = .returned (.int .i64 0) ∧ PAt w' b (s.crashed i) ∧ Wrote b W w'
  early : ∀ W, PAt W b (s.crashed i) → Calls Try.prog 16 #[.pointer (some ⟨b, 0, none⟩), .int .i64 (1 - (i : Int))] W fun e' w' => e' = .returned (.tuple #[.int .i64 2, .int .i64 0]) ∧ PAt w' b (s.crashed i) ∧ Wrote b W w'
  rest : now ≤ 1000000000000 - le → ∃ s7 s8, (∀ W, PAt W b (s.crashed i) → Calls Try.prog 17 #[.pointer (some ⟨b, 0, none⟩), .int .i64 le] W fun e' w' => e' = .returned (.int .i64 0) ∧ PAt w' b s7 ∧ Wrote b W w') ∧
    (∀ W, PAt W b s7 → Calls Try.prog 16 #[.pointer (some ⟨b, 0, none⟩), .int .i64 (1 - (i : Int))] W fun e' w' => e' = .returned (.tuple #[.int .i64 1, .int .i64 0]) ∧ PAt w' b s8 ∧ Wrote b W w') ∧
    ∃ v, (v = 5 ∨ v = 6) ∧ ∀ W, PAt W b s8 → Calls Try.prog 13 #[.pointer (some ⟨b, 0, none⟩), .int .i64 (1 - (i : Int)), .int .i64 0, .int .i64 cost] W fun e' w' => e' = .returned (.tuple #[.int .i64 v, .int .i64 0]) ∧ Wrote b W w'
theorem after_of {s : PC} {i n : Nat} {le now cost : Int} (h : Cal s i n le now) (hi : i < 2) (n0 : 0 < n) (c0 : 1 ≤ cost) (c1 : cost ≤ 2000000) (b : Nat) : After b i le now cost s := by
  have ej : (1 - (i : Int)) = ((1 - i : Nat) : Int) := by omega
  have hj : 1 - i < 2 := by omega
  have l0 := h.ok.lease0
  have hn := h.nw
  have hle := h.lease
  have hwt := h.wt
  have okc := crash_pok h.ok i
  have upj : (s.crashed i).up (1 - i) = true := by
    show upd s.up i false (1 - i) = true
    rw [upd_other _ _ (by omega)]
    exact h.up _ hj
  have lkj : (s.crashed i).link (1 - i + 2 - 1) = 0 := h.link _ (by omega)
  refine ⟨fun W hW => ?_, fun W hW => ?_, fun ht => ?_⟩
  · have := crash_yes b s (i : Int) (by omega) (by omega) (by rw [Int.toNat_natCast]; exact h.up i hi) W hW
    rw [Int.toNat_natCast] at this
    exact this
  · have e := other_refused (s := s.crashed i) hj lkj (by show s.holder ≠ _; rw [h.holder]; omega) (by show s.holder ≠ _; rw [h.holder]; omega) (by show s.now < s.wtil; omega)
    have := campaign_yes b (s.crashed i) ((1 - i : Nat) : Int) (by omega) (by omega) (by rw [Int.toNat_natCast]; exact upj) okc W hW
    rw [e] at this
    rw [ej]
    exact this
  · have okp := passed_ok okc le (by omega) (by show le ≤ 1000000000000 - s.now; omega)
    obtain ⟨g1, g2, g3, g4, g5⟩ := other_granted (s := (s.crashed i).passed le) okp (j := 1 - i) hj upj lkj (by show s.wtil ≤ s.now + le; omega) h.solo
    have ok8 := campaigned_ok okp ((1 - i : Nat) : Int)
    refine ⟨(s.crashed i).passed le, (((s.crashed i).passed le).campaigned ((1 - i : Nat) : Int)).2, fun W hW => pass_yes b (s.crashed i) le (by omega) (by show le ≤ 1000000000000 - s.now; omega) okc W hW, fun W hW => ?_, ?_⟩
    · have := campaign_yes b ((s.crashed i).passed le) ((1 - i : Nat) : Int) (by omega) (by omega) (by rw [Int.toNat_natCast]; exact upj) okp W hW
      rw [g1] at this
      rw [ej]
      exact this
    · refine ⟨_, able_asked g2 g3 0 cost, fun W hW => ?_⟩
      have hct : ((0 : Nat) : Int) < (((s.crashed i).passed le).campaigned ((1 - i : Nat) : Int)).2.count := by
        rw [g5]
        show ((0 : Nat) : Int) < s.count
        rw [h.cnt]
        omega
      rw [ej]
      refine (ask_at2 b _ (1 - i) 0 cost ok8 hj (by rw [g4]; exact upj) hct c0 c1 W hW).mono ?_
      rintro e w' ⟨rfl, _, hk⟩
      exact ⟨rfl, hk⟩

set_option maxRecDepth 100000 in
set_option maxHeartbeats 1000000 in
theorem calm_no (le wi cost : Int) (a sa : Option Addr) (n cap sn scap : Nat) (R B : Nat → Int) (w : World) (hT : Ten w a n R B) (hn : n * 16 ≤ 140737488355328) (no : ¬ Good le wi n R B) :
    Calls Try.prog 4 #[.agg #[.int .i64 le, .int .i64 wi, .slice a n cap], .slice sa sn scap, .int .i64 cost] w fun e w' => e = .returned (.bool true) ∧ Below w.heap.size w w' := by
  have hS1 : Same w (w.alloc (.cells #[.int .i64 le, .int .i64 wi, .slice a n cap] 24)) := Kept.alloc (Kept.refl _ _) _
  have HO : Hid (Calls Try.prog 5 #[.agg #[.int .i64 le, .int .i64 wi, .slice a n cap], .slice sa sn scap] (w.alloc (.cells #[.int .i64 le, .int .i64 wi, .slice a n cap] 24)) fun e w' => ∃ t, e = .returned (.tuple #[.pointer none, .pointer (some ⟨t, 0, none⟩), .bool true]) ∧ Same (w.alloc (.cells #[.int .i64 le, .int .i64 wi, .slice a n cap] 24)) w') := troubled_no le wi a sa n cap sn scap R B _ (hT.same hS1) hn no
  clear hT hn no
  go_enter Try.func4, Try.ntmps4
  go_wp2_with fail
  refine HO.out.mono ?_
  rintro e w2 ⟨t, rfl, hk2⟩
  go_wp2_with fail
  go_ret
  exact ⟨rfl, (hS1.trans hk2).below (Nat.le_refl _) (fun _ _ h => h)⟩

set_option maxRecDepth 100000 in
set_option maxHeartbeats 4000000 in
theorem calm_yes (le wi cost : Int) (ci : InW cost) (a sa : Option Addr) (n cap sn scap : Nat) (R B K X Y Z : Nat → Int) (w : World) (hT : Ten w a n R B) (hn : n * 16 ≤ 140737488355328) (hsn : sn * 32 ≤ 140737488355328) (hS : Scr w sa sn K X Y Z) (ok : Good le wi n R B) :
    Calls Try.prog 4 #[.agg #[.int .i64 le, .int .i64 wi, .slice a n cap], .slice sa sn scap, .int .i64 cost] w fun e w' => e = .returned (.bool true) ∧ Below w.heap.size w w' := by
  have hS1 : Same w (w.alloc (.cells #[.int .i64 le, .int .i64 wi, .slice a n cap] 24)) := Kept.alloc (Kept.refl _ _) _
  have hB1 := BAt.made' w w.heap.size rfl 24 #[.int .i64 le, .int .i64 wi, .slice a n cap]
  have HO : Hid (Calls Try.prog 5 #[.agg #[.int .i64 le, .int .i64 wi, .slice a n cap], .slice sa sn scap] (w.alloc (.cells #[.int .i64 le, .int .i64 wi, .slice a n cap] 24)) fun e w' => ∃ b t, e = .returned (.tuple #[.pointer (some ⟨b, 0, none⟩), .pointer (some ⟨t, 0, none⟩), .bool true]) ∧ (w.alloc (.cells #[.int .i64 le, .int .i64 wi, .slice a n cap] 24)).heap.size ≤ b ∧ (w.alloc (.cells #[.int .i64 le, .int .i64 wi, .slice a n cap] 24)).heap.size ≤ t ∧ b ≠ t ∧ PAt w' b ((PC.fresh le wi n R B n 2 (-1)).runTo K X Y Z sn) ∧ ClockAt w' t ((PC.fresh le wi n R B n 2 (-1)).runTo K X Y Z sn).now ∧ Same (w.alloc (.cells #[.int .i64 le, .int .i64 wi, .slice a n cap] 24)) w') := troubled_yes le wi a sa n cap sn scap R B K X Y Z _ (hT.same hS1) hn hsn (hS.same (hS1.below (Nat.le_refl _) (fun _ _ h => h))) ok
  have hsa := runTo_sane (sane_fresh ok) K X Y Z sn
  have hfx := runTo_fx (PC.fresh le wi n R B n 2 (-1)) K X Y Z sn
  have hct : ((PC.fresh le wi n R B n 2 (-1)).runTo K X Y Z sn).count = (n : Int) := (fix_count hfx).1
  have hle : ((PC.fresh le wi n R B n 2 (-1)).runTo K X Y Z sn).lease = le := (fix_count hfx).2
  have n0 : 0 < n := Nat.pos_of_ne_zero ok.ten.1
  have n4 : (n : Int) ≤ 4 := by have := hsa.ok.count1; omega
  clear hT hn hsn hS hfx ok
  generalize (PC.fresh le wi n R B n 2 (-1)).runTo K X Y Z sn = st at *
  have hpc := pickOf_bd (c := cost) (n := 1000000) (by omega)
  have HC : Hid (∀ W, Calls Try.prog 7 #[.int .i64 cost, .int .i64 1000000] W fun e w' => e = .returned (.int .i64 (pickOf cost 1000000)) ∧ w' = W) := fun W => pick_any cost 1000000 ci.1 ci.2 (by omega) (by omega) W
  generalize pickOf cost 1000000 = pc at *
  have l0 := hsa.ok.lease0
  have l1 := hsa.ok.lease1
  rw [hle] at l0 l1
  clear ci
  go_enter Try.func4, Try.ntmps4
  go_wp2_with fail
  refine HO.out.mono ?_
  rintro e w2 ⟨b, t, rfl, hb0, ht0, hbt, hp2, hc2, hk2⟩
  have hB2 := hB1.kept hk2 (fun h => h)
  have hb1 : w.heap.size + 1 ≤ b := by simpa using hb0
  have ht1 : w.heap.size + 1 ≤ t := by simpa using ht0
  have hS2 := hS1.trans hk2
  have c0 : w2.cell? ⟨w.heap.size, 0, none⟩ = some (.int .i64 le) := hB2.cell 0
  have HS2 : Hid (Same w w2) := hS2
  have hw2 := hS2.size
  clear HO hb0 ht0 hk2 hS1 hB1 hS2
  go_wp2_with fail
  by_cases hlate : 1000000000000 - st.lease < st.now
  · have HH := healed_late b t st hsa hbt hlate w2 hp2 hc2
    rw [hle] at HH
    refine HH.mono ?_
    rintro e w3 ⟨rfl, hk3⟩
    go_wp2_with fail
    go_ret
    refine ⟨rfl, (HS2.out.below (Nat.le_refl _) (fun _ _ h => h)).trans (hk3.below hw2 (fun q hq e => ?_))⟩
    rcases e with e | e <;> omega
  · have HH := healed_yes b t st hsa hbt (by omega) w2 hp2 hc2
    rw [hle] at HH
    refine HH.mono ?_
    rintro e w3 ⟨i, s3, rfl, led, fx3, hp3, hc3, hk3⟩
    have hB3 := hB2.kept hk3 (by rintro (e | e) <;> omega)
    have bel3 : Below w.heap.size w w3 := (HS2.out.below (Nat.le_refl _) (fun _ _ h => h)).trans (hk3.below hw2 (fun q hq e => by rcases e with e | e <;> omega))
    have hi := led.i2
    have hii : (i : Int) < 2 := by omega
    have hneg : decide ((i : Int) < 0) = false := decide_eq_false (by omega)
    have hcost0 : 1 ≤ 1 + pc := by omega
    have hcost1 : 1 + pc ≤ 2000000 := by omega
    obtain ⟨j1, j2, j3⟩ := calA_joined (n := n) led (by rw [(fix_count fx3).1, hct]) (by rw [(fix_count fx3).2, hle]) rfl
    have J0 := join_yes b s3 (i : Int) (by omega) (by omega) (by rw [Int.toNat_natCast]; exact led.held.up i hi) w3 hp3
    rw [Int.toNat_natCast, j1] at J0
    have HJ : Hid (Calls Try.prog 10 #[.pointer (some ⟨b, 0, none⟩), .int .i64 (i : Int)] w3 fun e' w' => e' = .returned (.tuple #[.int .i64 3, .int .i64 0]) ∧ PAt w' b (s3.joined i).2 ∧ Wrote b w3 w') := J0
    have now0 := led.held.ok.now0
    have now1 := led.held.ok.now1
    have CA : Hid (CalA (s3.joined i).2 i n le s3.now) := j2
    have HM : Hid (∀ W, PAt W b (s3.joined i).2 → Calls Try.prog 12 #[.pointer (some ⟨b, 0, none⟩), .int .i64 (n : Int)] W fun e' w' => e' = .returned (.bool true) ∧ ∃ q, w' = W.drewN q) := fun W hW => mirrored_any b n _ j2.held.ok j2.cal.cnt (fun k _ => j3 k) W hW
    have HW : Hid (∀ W, PAt W b (s3.joined i).2 → Calls Try.prog 11 #[.pointer (some ⟨b, 0, none⟩)] W fun e' w' => e' = .returned (.agg #[.int .i64 (i : Int), .int .i64 (s3.joined i).2.wepoch, .int .i64 (s3.joined i).2.wtil, .bool false]) ∧ Same W w') := by
      intro W hW
      refine (witness_any b (s3.joined i).2 W hW).mono ?_
      rintro e w' ⟨rfl, hk⟩
      rw [j2.cal.holder, j2.cal.solo]
      exact ⟨rfl, hk⟩
    generalize s3.now = now at *
    generalize (s3.joined i).2.wepoch = we at *
    generalize (s3.joined i).2.wtil = wt at *
    generalize (s3.joined i).2 = s4 at *
    have BEL3 : Hid (Below w.heap.size w w3) := bel3
    have hsz3 := bel3.size
    clear HH hk3 hp2 hc2 hB2 c0 HS2 J0 j1 j2 j3 bel3 fx3 hct hsa hle hlate led hp3
    go_wp2_with fail
    refine HJ.out.mono ?_
    rintro e w4 ⟨rfl, hp4, hk4⟩
    have hc4 := ClockAt.kept hc3 hk4 (Ne.symm hbt)
    have hB4 := hB3.kept hk4 (by omega)
    have bel4 := BEL3.out.trans (hk4.below hsz3 (fun q hq e => by omega))
    clear HJ hc3 hB3 hk4 BEL3 hsz3
    go_wp2_with fail
    refine (HW.out _ hp4).mono ?_
    rintro e w5 ⟨rfl, hk5⟩
    have hp5 := hp4.same hk5
    have hc5 := ClockAt.kept hc4 hk5 (fun h => h)
    have hB5 := hB4.kept hk5 (fun h => h)
    have bel5 := bel4.trans (hk5.below bel4.size (fun q hq e => e))
    have hp6 := PAt.alloc hp5 (.cells #[.int .i64 (i : Int), .int .i64 we, .int .i64 wt, .bool false] 43)
    have hc6 := BAt.alloc hc5 (.cells #[.int .i64 (i : Int), .int .i64 we, .int .i64 wt, .bool false] 43)
    have hB6 := BAt.alloc hB5 (.cells #[.int .i64 (i : Int), .int .i64 we, .int .i64 wt, .bool false] 43)
    have hV6 := BAt.made' w5 w5.heap.size rfl 43 #[.int .i64 (i : Int), .int .i64 we, .int .i64 wt, .bool false]
    have q6 := Kept.alloc (Kept.refl (fun _ => False) w5) (.cells #[.int .i64 (i : Int), .int .i64 we, .int .i64 wt, .bool false] 43)
    have bel6 := bel5.trans (q6.below bel5.size (fun q hq e => e))
    have e0 : (w5.alloc (.cells #[.int .i64 (i : Int), .int .i64 we, .int .i64 wt, .bool false] 43)).cell? ⟨w.heap.size, 2, none⟩ = some (.slice a n cap) := hB6.cell 2
    have e1 : (w5.alloc (.cells #[.int .i64 (i : Int), .int .i64 we, .int .i64 wt, .bool false] 43)).cell? ⟨w5.heap.size, 0, none⟩ = some (.int .i64 (i : Int)) := hV6.cell 0
    have e2 : (w5.alloc (.cells #[.int .i64 (i : Int), .int .i64 we, .int .i64 wt, .bool false] 43)).cell? ⟨w5.heap.size, 3, none⟩ = some (.bool false) := hV6.cell 3
    have hB5c : w5.cell? ⟨w.heap.size, 2, none⟩ = some (.slice a n cap) := hB5.cell 2
    have hwl := hB5.lt
    clear HW hp4 hc4 hB4 hk5 bel4 hp5 hc5 hB5 hV6 q6 bel5
    go_wp2_with fail
    generalize w5.alloc (.cells #[.int .i64 (i : Int), .int .i64 we, .int .i64 wt, .bool false] 43) = W6 at *
    generalize w5.heap.size = g at *
    refine (HM.out _ hp6).mono ?_
    rintro e w7 ⟨rfl, q7, rfl⟩
    clear HM
    go_wp2_with fail
    refine (HC.out _).mono ?_
    rintro e w8 ⟨rfl, rfl⟩
    have HP8 : Hid (PAt (W6.drewN q7) b s4) := hp6.drewN q7
    have HC8 : Hid (ClockAt (W6.drewN q7) t now) := BAt.drewN hc6 q7
    have HB8 : Hid (BAt (W6.drewN q7) w.heap.size 24 #[.int .i64 le, .int .i64 wi, .slice a n cap]) := BAt.drewN hB6 q7
    have HBL : Hid (Below w.heap.size w (W6.drewN q7)) := ⟨bel6.os, bel6.tape, bel6.output, bel6.size, bel6.block⟩
    clear HC hp6 hc6 hB6 bel6 e0 e1 e2 hB5c
    go_wp2_with fail
    generalize W6.drewN q7 = W8 at *
    go_loopw [16] (fun x wr => ∃ (k : Nat) (s : PC), k ≤ n ∧ x = .int .i64 k ∧ CalA s i n le now ∧ PAt wr b s ∧ Wrote b W8 wr) (fun x _ => n - (intOf x).toNat)
    case atStart => exact ⟨0, s4, by omega, rfl, CA.out, HP8.out, Kept.refl _ _⟩
    case round =>
      obtain ⟨k, s, hk, rfl, ca, hp, hkw⟩ := hrel
      clear CA HP8
      have hB := HB8.out.kept hkw (by omega)
      have cc2 : wr.cell? ⟨w.heap.size, 2, none⟩ = some (.slice a n cap) := hB.cell 2
      by_cases hlt : k < n
      · have hki : (k : Int) < n := by omega
        obtain ⟨v56, ca'⟩ := calA_asked ca hi k (1 + pc) hcost0 hcost1
        have HA : Hid (∀ W, PAt W b s → Calls Try.prog 13 #[.pointer (some ⟨b, 0, none⟩), .int .i64 (i : Int), .int .i64 (k : Int), .int .i64 (1 + pc)] W fun e w' => e = .returned (.tuple #[.int .i64 (s.asked i k (1 + pc)).1, .int .i64 0]) ∧ PAt w' b (s.asked i k (1 + pc)).2 ∧ Wrote b W w') := fun W hW => ask_at2 b s i k (1 + pc) ca.held.ok hi (ca.held.up i hi) (by rw [ca.cal.cnt]; omega) hcost0 hcost1 W hW
        have CA' : Hid (CalA (s.asked i k (1 + pc)).2 i n le now) := ca'
        generalize (s.asked i k (1 + pc)).1 = v at *
        generalize (s.asked i k (1 + pc)).2 = s' at *
        clear ca ca'
        go_wp2_with fail
        refine (HA.out _ hp).mono ?_
        rintro e w9 ⟨rfl, hp9, hk9⟩
        rcases v56 with rfl | rfl
        all_goals
          go_wp2_with fail
          exact ⟨⟨k + 1, s', by omega, by go_num, CA'.out, hp9, hkw.trans hk9⟩, by simp [intOf]; omega⟩
      · have hge : decide ((k : Int) < (n : Int)) = false := decide_eq_false (by omega)
        have HL : Hid (∀ W, PAt W b s → Calls Try.prog 14 #[.pointer (some ⟨b, 0, none⟩), .int .i64 (i : Int), .int .i64 (n : Int)] W fun e w' => e = .returned (.bool true) ∧ ∃ s', Cal s' i n le now ∧ PAt w' b s' ∧ Wrote b W w') := fun W hW => lasting_any b i n le now s ca.cal hi W hW
        clear ca hk
        go_wp2_with fail
        refine (HL.out _ hp).mono ?_
        rintro e w9 ⟨rfl, s5, cal, hp9, hk9⟩
        obtain ⟨AC, AE, AR⟩ := after_of cal hi n0 hcost0 hcost1 b
        have HAC : Hid (∀ W, PAt W b s5 → Calls Try.prog 15 #[.pointer (some ⟨b, 0, none⟩), .int .i64 (i : Int)] W fun e' w' => e' = .returned (.int .i64 0) ∧ PAt w' b (s5.crashed i) ∧ Wrote b W w') := AC
        have HAE : Hid (∀ W, PAt W b (s5.crashed i) → Calls Try.prog 16 #[.pointer (some ⟨b, 0, none⟩), .int .i64 (1 - (i : Int))] W fun e' w' => e' = .returned (.tuple #[.int .i64 2, .int .i64 0]) ∧ PAt w' b (s5.crashed i) ∧ Wrote b W w') := AE
        have kw9 := hkw.trans hk9
        clear HL hp hkw hk9 hB cc2 cal AC AE
        generalize s5.crashed i = s6 at *
        go_wp2_with fail
        refine (HAC.out _ hp9).mono ?_
        rintro e w10 ⟨rfl, hp10, hk10⟩
        clear HAC hp9
        go_wp2_with fail
        refine (HAE.out _ hp10).mono ?_
        rintro e w11 ⟨rfl, hp11, hk11⟩
        have kw11 := (kw9.trans hk10).trans hk11
        have hc11 := HC8.out.kept kw11 (Ne.symm hbt)
        have hB11 := HB8.out.kept kw11 (by omega)
        have t11 := hc11.cell0
        have l11 : w11.cell? ⟨w.heap.size, 0, none⟩ = some (.int .i64 le) := hB11.cell 0
        have BL11 : Hid (Below w.heap.size w w11) := HBL.out.trans (kw11.below HBL.out.size (fun q hq e => by omega))
        clear HAE hp10 hk10 hk11 kw9 kw11 HC8 HB8 HBL
        go_wp2_with fail
        by_cases hlast : 1000000000000 - le < now
        · have hdl : decide (now > 1000000000000 - le) = true := decide_eq_true (by omega)
          go_quiet (fail)
          go_wp2_with fail
          go_ret
          exact ⟨rfl, BL11.out.os, BL11.out.tape, BL11.out.output, BL11.out.size, BL11.out.block⟩
        · have hdl : decide (now > 1000000000000 - le) = false := decide_eq_false (by omega)
          obtain ⟨s7, s8, A7, A8, v, hv, A9⟩ := AR (by omega)
          have HA7 : Hid (∀ W, PAt W b s6 → Calls Try.prog 17 #[.pointer (some ⟨b, 0, none⟩), .int .i64 le] W fun e' w' => e' = .returned (.int .i64 0) ∧ PAt w' b s7 ∧ Wrote b W w') := A7
          have HA8 : Hid (∀ W, PAt W b s7 → Calls Try.prog 16 #[.pointer (some ⟨b, 0, none⟩), .int .i64 (1 - (i : Int))] W fun e' w' => e' = .returned (.tuple #[.int .i64 1, .int .i64 0]) ∧ PAt w' b s8 ∧ Wrote b W w') := A8
          have HA9 : Hid (∀ W, PAt W b s8 → Calls Try.prog 13 #[.pointer (some ⟨b, 0, none⟩), .int .i64 (1 - (i : Int)), .int .i64 0, .int .i64 (1 + pc)] W fun e' w' => e' = .returned (.tuple #[.int .i64 v, .int .i64 0]) ∧ Wrote b W w') := A9
          clear AR A7 A8 A9
          go_quiet (fail)
          go_wp2_with fail
          refine (HA7.out _ (by exact hp11)).mono ?_
          rintro e w12 ⟨rfl, hp12, hk12⟩
          have BL12 : Hid (Below w.heap.size w w12) := by
            have hz := BL11.out.size
            exact ⟨hk12.os.trans BL11.out.os, hk12.tape.trans BL11.out.tape, hk12.output.trans BL11.out.output, Nat.le_trans hz hk12.size, fun q hq => (hk12.block q (Nat.lt_of_lt_of_le hq hz) (by omega)).trans (BL11.out.block q hq)⟩
          have hz12 := BL12.out.size
          clear HA7 hp11 hk12 BL11 hc11 hB11 t11 l11
          go_wp2_with fail
          refine (HA8.out _ hp12).mono ?_
          rintro e w13 ⟨rfl, hp13, hk13⟩
          have hz13 := hk13.size
          go_wp2_with fail
          refine (HA9.out _ hp13).mono ?_
          rintro e w14 ⟨rfl, hk14⟩
          rcases hv with rfl | rfl
          all_goals
            go_wp2_with fail
            go_ret
            exact ⟨rfl, (BL12.out.trans (hk13.below hz12 (fun q hq e => by omega))).trans (hk14.below (by omega) (fun q hq e => by omega))⟩

theorem calm_walk (le wi cost : Int) (ci : InW cost) (a sa : Option Addr) (n cap sn scap : Nat) (R B K X Y Z : Nat → Int) (w : World) (hT : Ten w a n R B) (hn : n * 16 ≤ 140737488355328) (hsn : sn * 32 ≤ 140737488355328) (hS : Scr w sa sn K X Y Z) :
    Calls Try.prog 4 #[.agg #[.int .i64 le, .int .i64 wi, .slice a n cap], .slice sa sn scap, .int .i64 cost] w fun e w' => e = .returned (.bool true) ∧ Below w.heap.size w w' := by
  rcases Classical.em (Good le wi n R B) with g | no
  · exact calm_yes le wi cost ci a sa n cap sn scap R B K X Y Z w hT hn hsn hS g
  · exact calm_no le wi cost a sa n cap sn scap R B w hT hn no

end Go.Proofs.Ytpfahgogjeignab
