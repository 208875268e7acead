/-
  OneGate: its walk.
-/
import Derived.Test.YtpfahgogjeignaaKeepH
import Derived.Test.YtpfahgogjeignaaKeepJ
import Derived.Test.YtpfahgogjeignaaPlain
import Derived.Test.YtpfahgogjeignaaMem
set_option linter.unusedVariables false
set_option linter.unusedSimpArgs false
namespace Go.Proofs.Ytpfahgogjeignaa
open Go.RowKit
attribute [local go_sem ↓] Go.wp_at_zero Go.wp_at_succ

set_option maxRecDepth 100000 in
set_option maxHeartbeats 1000000 in
theorem onegate_no (le wi : Int) (a sa : Option Addr) (n cap sn scap : Nat) (R B : Nat → Int) (w : World) (hT : Ten w a n R B) (hn : n * 16 ≤ 140737488355328) (no : ¬ Good le wi n R B) :
    Calls Try.prog 3 #[.agg #[.int .i64 le, .int .i64 wi, .slice a n cap], .slice sa sn scap] w fun e w' => e = .returned (.bool true) ∧ Below w.heap.size w w' := by
  have hS1 : Same w (w.alloc (.cells #[.int .i64 le, .int .i64 wi, .slice a n cap] 24)) := Kept.alloc (Kept.refl _ _) _
  have HO : Hid (Calls Try.prog 5 #[.agg #[.int .i64 le, .int .i64 wi, .slice a n cap]] (w.alloc (.cells #[.int .i64 le, .int .i64 wi, .slice a n cap] 24)) fun e w' => e = .returned (.tuple #[.pointer none, .bool true]) ∧ Same (w.alloc (.cells #[.int .i64 le, .int .i64 wi, .slice a n cap] 24)) w') := opened_no le wi a n cap R B _ (hT.same hS1) hn no
  clear hT hn no
  go_enter Try.func3, Try.ntmps3
  go_wp2_with fail
  refine HO.out.mono ?_
  rintro e w2 ⟨rfl, hk2⟩
  go_wp2_with fail
  go_ret
  exact ⟨rfl, (hS1.trans hk2).below (Nat.le_refl _) (fun _ _ h => h)⟩

set_option maxRecDepth 100000 in
set_option maxHeartbeats 4000000 in
theorem onegate_yes (le wi : Int) (a sa : Option Addr) (n cap sn scap : Nat) (R B K X Y Z : Nat → Int) (w : World) (hT : Ten w a n R B) (hn : n * 16 ≤ 140737488355328) (hsn : sn * 32 ≤ 140737488355328) (hS : Scr w sa sn K X Y Z) (ok : Good le wi n R B) :
    Calls Try.prog 3 #[.agg #[.int .i64 le, .int .i64 wi, .slice a n cap], .slice sa sn scap] w fun e w' => e = .returned (.bool true) ∧ Below w.heap.size w w' := by
  have hS1 : Same w (w.alloc (.cells #[.int .i64 le, .int .i64 wi, .slice a n cap] 24)) := Kept.alloc (Kept.refl _ _) _
  have HO : Hid (Calls Try.prog 5 #[.agg #[.int .i64 le, .int .i64 wi, .slice a n cap]] (w.alloc (.cells #[.int .i64 le, .int .i64 wi, .slice a n cap] 24)) fun e w' => ∃ b, e = .returned (.tuple #[.pointer (some ⟨b, 0, none⟩), .bool true]) ∧ (w.alloc (.cells #[.int .i64 le, .int .i64 wi, .slice a n cap] 24)).heap.size ≤ b ∧ PAt w' b (PC.fresh le wi n R B n 2 (-1)) ∧ Same (w.alloc (.cells #[.int .i64 le, .int .i64 wi, .slice a n cap] 24)) w') := opened_yes le wi a n cap R B _ (hT.same hS1) hn ok
  have G0 : Hid (Gate' (PC.fresh le wi n R B n 2 (-1)) ∧ (PC.fresh le wi n R B n 2 (-1)).Ok) := ⟨⟨gate_fresh le wi n R B ok.l0, Int.le_refl _⟩, fresh_ok ok.l0 ok.l1 ok.ten ok.win 2 (-1)⟩
  have sni : (sn : Int) < 9000000000000 := by omega
  have HS : Hid (Scr w sa sn K X Y Z) := hS
  clear hT hn ok hsn hS
  go_enter Try.func3, Try.ntmps3
  go_wp2_with fail
  refine HO.out.mono ?_
  rintro e w2 ⟨b, rfl, hbl, hp2, hk2⟩
  have hS2 := hS1.trans hk2
  have hbl2 : w.heap.size + 1 ≤ b := by simpa using hbl
  have hbw := hp2.lt
  have hcl : ClockAt (w2.alloc (.cells #[.int .i64 0] 31)) w2.heap.size 0 := BAt.made' _ _ rfl _ _
  have hp3 := PAt.alloc hp2 (.cells #[.int .i64 0] 31)
  have hS3 := Kept.alloc hS2 (.cells #[.int .i64 0] 31)
  have hw2 := hS2.size
  clear hk2 hS1 hbl HO hp2 hS2
  go_wp2_with fail
  generalize w2.alloc (.cells #[.int .i64 0] 31) = W3 at *
  generalize w2.heap.size = t at *
  have HP3 : Hid (PAt W3 b (PC.fresh le wi n R B n 2 (-1))) := hp3
  have HC3 : Hid (ClockAt W3 t 0) := hcl
  have HS3 : Hid (Same w W3) := hS3
  clear hp3 hcl hS3
  go_loopw [6, 8] (fun x y wr => ∃ (i : Nat) (o : Bool) (s : PC), i ≤ sn ∧ x = .bool o ∧ y = .int .i64 i ∧ PAt wr b s ∧ s.Ok ∧ Gate' s ∧ ClockAt wr t s.now ∧ Kept (fun q => q = b ∨ q = t) W3 wr) (fun _ y _ => sn - (intOf y).toNat)
  case atStart => exact ⟨0, true, _, by omega, rfl, rfl, HP3.out, G0.out.2, G0.out.1, HC3.out, Kept.refl _ _⟩
  case round =>
    obtain ⟨i, o, s, hi, rfl, rfl, hp, hok, hg, hc, hkx⟩ := hrel
    clear HP3 HC3 G0
    have hbelx : Below w.heap.size w wr := by
      have hS := HS3.out
      have hb0 := hkx.size
      have hw3 := hS.size
      exact ⟨hkx.os.trans hS.os, hkx.tape.trans hS.tape, hkx.output.trans hS.output, Nat.le_trans hS.size hkx.size, fun q hq => (hkx.block q (by omega) (by rintro (e | e) <;> omega)).trans (hS.block q (by omega) (fun h => h))⟩
    by_cases hlt : i < sn
    · rcases HS.out with h0 | ⟨sb, off, rfl, hsb, hcs⟩
      · omega
      obtain ⟨r0, r1, r2, r3⟩ := hcs i hlt
      have c0 := (hbelx.cell (p := ⟨sb, off + i * 4, none⟩) hsb).trans r0
      have c1 := (hbelx.cell (p := ⟨sb, off + i * 4 + 1, none⟩) hsb).trans r1
      have c2 := (hbelx.cell (p := ⟨sb, off + i * 4 + 2, none⟩) hsb).trans r2
      have c3 := (hbelx.cell (p := ⟨sb, off + i * 4 + 3, none⟩) hsb).trans r3
      have hii : (i : Int) < sn := by omega
      have hszx := hbelx.size
      have hsbx : sb < wr.heap.size := by omega
      clear hcs r0 r1 r2 r3
      generalize K i = k at *
      generalize X i = x at *
      generalize Y i = y at *
      generalize Z i = z at *
      have hpa := PAt.alloc hp (.cells #[.int .i64 k, .int .i64 x, .int .i64 y, .int .i64 z] 33)
      have hca := BAt.alloc hc (.cells #[.int .i64 k, .int .i64 x, .int .i64 y, .int .i64 z] 33)
      have hkxa := Kept.alloc hkx (.cells #[.int .i64 k, .int .i64 x, .int .i64 y, .int .i64 z] 33)
      have hoa := BAt.made' wr wr.heap.size rfl 33 #[.int .i64 k, .int .i64 x, .int .i64 y, .int .i64 z]
      have hbl := hp.lt
      have hcl := BAt.lt hc
      go_wp2_with fail
      refine (called_any b s hok k x y z _ hpa).mono ?_
      rintro e w4 ⟨rfl, hp4, hk4⟩
      have gk := gate_call hok hg k x y z
      have hB := call_now s k x y z
      have hC : k = 1 ∧ (s.call k x y z).1.e = 0 → 0 ≤ x ∧ x ≤ 1000000000000 - s.now ∧ (s.call k x y z).2.now = s.now + x := by
        rintro ⟨rfl, he⟩
        exact call_pass s x y z he
      have hD : k = 6 ∧ (s.call k x y z).1.e = 0 → isNodeB x = true ∧ ((s.call k x y z).1.a = 4 ↔ (s.call k x y z).2.hasLease x.toNat = false) := by
        rintro ⟨rfl, he⟩
        exact call_ask s x y z he
      generalize s.call k x y z = cl at *
      obtain ⟨⟨xa, xb, xc, xd, xe⟩, s4⟩ := cl
      dsimp only at gk hB hC hD hp4
      simp only [SaidR.v]
      have n0 := hok.now0
      have n1 := hok.now1
      generalize hnw : s.now = now at *
      have hc4 := BAt.kept hca hk4 (by omega)
      have ho4 := hoa.kept hk4 (by omega)
      have hk4' := hkxa.trans (hk4.mono (fun q e => Or.inl e))
      have B5 := BAt.made' w4 w4.heap.size rfl 36 #[.int .i64 xa, .int .i64 xb, .int .i64 xc, .int .i64 xd, .int .i64 xe]
      have hc5 := BAt.alloc hc4 (.cells #[.int .i64 xa, .int .i64 xb, .int .i64 xc, .int .i64 xd, .int .i64 xe] 36)
      have ho5 := BAt.alloc ho4 (.cells #[.int .i64 xa, .int .i64 xb, .int .i64 xc, .int .i64 xd, .int .i64 xe] 36)
      have hp5 := PAt.alloc hp4 (.cells #[.int .i64 xa, .int .i64 xb, .int .i64 xc, .int .i64 xd, .int .i64 xe] 36)
      have hk5 := Kept.alloc hk4' (.cells #[.int .i64 xa, .int .i64 xb, .int .i64 xc, .int .i64 xd, .int .i64 xe] 36)
      have l4 := hk4.size
      have l4' : wr.heap.size + 1 ≤ w4.heap.size := by simpa using l4
      have GK : Hid (Gate' s4 ∧ s4.Ok) := gk
      have HB : Hid (¬ (k = 1 ∧ xe = 0) → s4.now = now) := hB
      have HC : Hid (k = 1 ∧ xe = 0 → 0 ≤ x ∧ x ≤ 1000000000000 - now ∧ s4.now = now + x) := hC
      have HD : Hid (k = 6 ∧ xe = 0 → isNodeB x = true ∧ (xa = 4 ↔ s4.hasLease x.toNat = false)) := hD
      have y0 : w4.cell? ⟨wr.heap.size, 0, none⟩ = some (.int .i64 k) := ho4.cell 0
      have y1 : w4.cell? ⟨wr.heap.size, 1, none⟩ = some (.int .i64 x) := ho4.cell 1
      have y2 : w4.cell? ⟨wr.heap.size, 2, none⟩ = some (.int .i64 y) := ho4.cell 2
      have y3 : w4.cell? ⟨wr.heap.size, 3, none⟩ = some (.int .i64 z) := ho4.cell 3
      have y4 : wr.heap.size < w4.heap.size := by omega
      clear gk hB hC hD hc4 ho4 hk4' hk4 hpa hca hkxa hoa hp4 hg hok hc hp hkx c0 c1 c2 c3 l4 hnw
      go_wp2_with fail
      generalize w4.alloc (.cells #[.int .i64 xa, .int .i64 xb, .int .i64 xc, .int .i64 xd, .int .i64 xe] 36) = W5 at *
      generalize w4.heap.size = g5 at *
      generalize wr.heap.size = g4 at *
      clear y0 y1 y2 y3
      by_cases h1 : k = 1 ∧ xe = 0
      · obtain ⟨x0, x1, en⟩ := HC.out h1
        obtain ⟨rfl, rfl⟩ := h1
        refine (told_pass t x y z now x0 x1 n0 n1 _ hc5).mono ?_
        rintro e w6 ⟨rfl, hc6, hk6⟩
        have ho6 := ho5.kept hk6 (by omega)
        have hp6 := PAt.kept hp5 hk6 (by omega)
        have hk6' := hk5.trans (hk6.mono (fun q e => Or.inr e))
        have z0 : w6.cell? ⟨g4, 0, none⟩ = some (.int .i64 1) := ho6.cell 0
        rw [← en] at hc6
        go_wp2_with fail
        exact ⟨⟨i + 1, _, s4, by omega, rfl, by go_num, hp6, GK.out.2, GK.out.1, hc6, hk6'⟩, by simp [intOf]; omega⟩
      · have en := HB.out h1
        refine (told_not t k x y z xe (by omega) _).mono ?_
        rintro e w6 ⟨rfl, hk6⟩
        have ho6 := ho5.kept hk6 (fun h => h)
        have hp6 := hp5.same hk6
        have hc6 := BAt.kept hc5 hk6 (fun h => h)
        have B6 := B5.kept hk6 (fun h => h)
        have hk6' := hk5.trans (hk6.mono (fun q e => e.elim))
        have z0 : w6.cell? ⟨g4, 0, none⟩ = some (.int .i64 k) := ho6.cell 0
        have z1 : w6.cell? ⟨g4, 1, none⟩ = some (.int .i64 x) := ho6.cell 1
        have z2 : w6.cell? ⟨t, 0, none⟩ = some (.int .i64 now) := BAt.cell hc6 0
        have z3 : w6.cell? ⟨g5, 4, none⟩ = some (.int .i64 xe) := B6.cell 4
        have z4 : w6.cell? ⟨g5, 0, none⟩ = some (.int .i64 xa) := B6.cell 0
        rw [← en] at hc6 z2
        have HC6 : Hid (ClockAt w6 t s4.now) := hc6
        have HK6 : Hid (Kept (fun q => q = b ∨ q = t) W3 w6) := hk6'
        have HP6 : Hid (PAt w6 b s4) := hp6
        clear HB HC hp5 hc5 ho5 B5 hk5 hk6 hk6' hc6 h1 en
        by_cases h10 : k = 10
        · have e10 : (k == 10) = true := by simp [h10]
          have e6 : (k == 6) = false := by simp [h10]
          go_wp2_with fail
          refine (single_any b s4 GK.out.1.g _ hp6).mono ?_
          rintro e w7 ⟨rfl, hk7⟩
          have z0' : w7.cell? ⟨g4, 0, none⟩ = some (.int .i64 k) := (ho6.kept hk7 (fun h => h)).cell 0
          have hp7 := hp6.same hk7
          have hc7 := BAt.kept HC6.out hk7 (fun h => h)
          have hkk7 := HK6.out.trans (hk7.mono (fun q e => e.elim))
          go_wp2_with fail
          exact ⟨⟨i + 1, _, s4, by omega, rfl, by go_num, hp7, GK.out.2, GK.out.1, hc7, hkk7⟩, by simp [intOf]; omega⟩
        · have e10 : (k == 10) = false := by simp [h10]
          by_cases h6 : k = 6
          · have e6 : (k == 6) = true := by simp [h6]
            by_cases he : xe = 0
            · have ee : (xe == 0) = true := by simp [he]
              obtain ⟨hx, hq⟩ := HD.out ⟨h6, he⟩
              obtain ⟨jj, hjj, rfl⟩ := nat_of_node hx
              rw [Int.toNat_natCast] at hq
              clear hx HD h6 h10 he
              go_wp2_with fail
              refine (node_at b s4 jj hjj _ hp6).mono ?_
              rintro e w7 ⟨rfl, hk7⟩
              have hLe : (s4.up jj && decide (s4.now < s4.til jj)) = s4.hasLease jj := rfl
              have ho7 := ho6.kept hk7 (fun h => h)
              have hp7 := hp6.same hk7
              have hc7 := BAt.kept HC6.out hk7 (fun h => h)
              have B7 := B6.kept hk7 (fun h => h)
              have hkk7 := HK6.out.trans (hk7.mono (fun q e => e.elim))
              clear z0 z1 z2 z3 z4 ho6 hp6 B6 hk7 HC6 HK6 HP6
              generalize s4.up jj = nu at *
              generalize s4.epoch jj = ne at *
              generalize s4.til jj = nt at *
              generalize s4.alone jj = na at *
              have tn := BAt.made' w7 w7.heap.size rfl 41 #[.bool nu, .int .i64 ne, .int .i64 nt, .bool na]
              have ho8 := BAt.alloc ho7 (.cells #[.bool nu, .int .i64 ne, .int .i64 nt, .bool na] 41)
              have hp8 := PAt.alloc hp7 (.cells #[.bool nu, .int .i64 ne, .int .i64 nt, .bool na] 41)
              have hc8 := BAt.alloc hc7 (.cells #[.bool nu, .int .i64 ne, .int .i64 nt, .bool na] 41)
              have B8 := BAt.alloc B7 (.cells #[.bool nu, .int .i64 ne, .int .i64 nt, .bool na] 41)
              have hk8 := Kept.alloc hkk7 (.cells #[.bool nu, .int .i64 ne, .int .i64 nt, .bool na] 41)
              clear ho7 hp7 hc7 B7 hkk7
              go_wp2_with fail
              generalize w7.alloc (.cells #[.bool nu, .int .i64 ne, .int .i64 nt, .bool na] 41) = W8 at *
              generalize w7.heap.size = g8 at *
              have v0 : W8.cell? ⟨g8, 0, none⟩ = some (.bool nu) := tn.cell 0
              have v1 : W8.cell? ⟨g8, 1, none⟩ = some (.int .i64 ne) := tn.cell 1
              have v2 : W8.cell? ⟨g8, 2, none⟩ = some (.int .i64 nt) := tn.cell 2
              have v3 : W8.cell? ⟨g8, 3, none⟩ = some (.bool na) := tn.cell 3
              have v4 : W8.cell? ⟨t, 0, none⟩ = some (.int .i64 s4.now) := BAt.cell hc8 0
              go_region_held3 (fun w' => w'.cell? ⟨g8, 0, none⟩ = some (.bool nu) ∧ w'.cell? ⟨g8, 1, none⟩ = some (.int .i64 ne) ∧ w'.cell? ⟨g8, 2, none⟩ = some (.int .i64 nt) ∧ w'.cell? ⟨g8, 3, none⟩ = some (.bool na) ∧ w'.cell? ⟨t, 0, none⟩ = some (.int .i64 s4.now)) (go_keep) (first | (go_at_call 10; refine (leased_any nu ne nt na s4.now _).mono ?_; rintro e w9 ⟨rfl, hk9⟩; have tn9 := (BAt.drew tn).kept hk9 (fun h => h); have hc9 := BAt.kept (BAt.drew hc8) hk9 (fun h => h); have B9 := (BAt.drew B8).kept hk9 (fun h => h); have v0' : w9.cell? ⟨g8, 0, none⟩ = some (.bool nu) := tn9.cell 0; have v1' : w9.cell? ⟨g8, 1, none⟩ = some (.int .i64 ne) := tn9.cell 1; have v2' : w9.cell? ⟨g8, 2, none⟩ = some (.int .i64 nt) := tn9.cell 2; have v3' : w9.cell? ⟨g8, 3, none⟩ = some (.bool na) := tn9.cell 3; have v4' : w9.cell? ⟨t, 0, none⟩ = some (.int .i64 s4.now) := BAt.cell hc9 0; have v5' : w9.cell? ⟨g5, 0, none⟩ = some (.int .i64 xa) := B9.cell 0))
              have hp9 := (PAt.drew hp8).same hk9
              have hkk9 := (Kept.drew hk8).trans (hk9.mono (fun q e => e.elim))
              cases hL : s4.hasLease jj
              · have ea : (xa != 4) = false := by simp [hq.2 hL]
                go_wp2_with fail
                exact ⟨⟨i + 1, _, s4, by omega, rfl, by go_num, hp9, GK.out.2, GK.out.1, hc9, hkk9⟩, by simp [intOf]; omega⟩
              · have ea : (xa != 4) = true := by
                  simp
                  intro e
                  have := hq.1 e
                  rw [hL] at this
                  cases this
                go_wp2_with fail
                exact ⟨⟨i + 1, _, s4, by omega, rfl, by go_num, hp9, GK.out.2, GK.out.1, hc9, hkk9⟩, by simp [intOf]; omega⟩
            · have ee : (xe == 0) = false := by simp [he]
              go_wp2_with fail
              exact ⟨⟨i + 1, _, s4, by omega, rfl, by go_num, HP6.out, GK.out.2, GK.out.1, HC6.out, HK6.out⟩, by simp [intOf]; omega⟩
          · have e6 : (k == 6) = false := by simp [h6]
            go_wp2_with fail
            exact ⟨⟨i + 1, _, s4, by omega, rfl, by go_num, HP6.out, GK.out.2, GK.out.1, HC6.out, HK6.out⟩, by simp [intOf]; omega⟩
    · have hge : decide ((i : Int) < (sn : Int)) = false := decide_eq_false (by omega)
      have cc0 : wr.cell? ⟨t, 0, none⟩ = some (.int .i64 s.now) := BAt.cell hc 0
      go_wp2_with fail
      refine (single_any b s hg.g _ hp).mono ?_
      rintro e w5 ⟨rfl, hk5⟩
      go_wp2_with fail
      go_ret
      exact ⟨rfl, hbelx.trans (hk5.below hbelx.size (fun _ _ h => h))⟩

theorem onegate_walk (le wi : Int) (a sa : Option Addr) (n cap sn scap : Nat) (R B K X Y Z : Nat → Int) (w : World) (hT : Ten w a n R B) (hn : n * 16 ≤ 140737488355328) (hsn : sn * 32 ≤ 140737488355328) (hS : Scr w sa sn K X Y Z) :
    Calls Try.prog 3 #[.agg #[.int .i64 le, .int .i64 wi, .slice a n cap], .slice sa sn scap] w fun e w' => e = .returned (.bool true) ∧ Below w.heap.size w w' := by
  rcases Classical.em (Good le wi n R B) with g | no
  · exact onegate_yes le wi a sa n cap sn scap R B K X Y Z w hT hn hsn hS g
  · exact onegate_no le wi a sa n cap sn scap R B w hT hn no

end Go.Proofs.Ytpfahgogjeignaa
