/-
  A cluster behind a script: the keeper's troubled.
-/
import Derived.Test.YtpfahgogjeignabKeepH
import Derived.Test.YtpfahgogjeignabKeepY
set_option linter.unusedVariables false
set_option linter.unusedSimpArgs false
namespace Go.Proofs.Ytpfahgogjeignab
open Go.RowKit
attribute [local go_sem ↓] Go.wp_at_zero Go.wp_at_succ

/-- A number that fits. -/
def InW (x : Int) : Prop := -9223372036854775808 ≤ x ∧ x ≤ 9223372036854775807
/-- A cell of an elder block that is kept. -/
theorem cell_kept {S : Nat → Prop} {w w' : World} {b o : Nat} {v : Value} (k : Kept S w w') (hb : b < w.heap.size) (hs : ¬ S b) (h : w.cell? ⟨b, o, none⟩ = some v) : w'.cell? ⟨b, o, none⟩ = some v :=
  (World.cell?_of_block (w := w) (k.block b hb hs)).trans h

set_option maxRecDepth 100000 in
set_option maxHeartbeats 1000000 in
theorem troubled_no (le wi : Int) (a sa : Option Addr) (n cap sn scap : Nat) (R B : Nat → Int) (w : World) (hT : Ten w a n R B) (hn : n * 16 ≤ 140737488355328) (no : ¬ Good le wi n R B) :
    Calls Try.prog 5 #[.agg #[.int .i64 le, .int .i64 wi, .slice a n cap], .slice sa sn scap] w fun e w' => ∃ t, e = .returned (.tuple #[.pointer none, .pointer (some ⟨t, 0, none⟩), .bool true]) ∧ Same w w' := by
  have hS1 : Same w (w.alloc (.cells #[.int .i64 le, .int .i64 wi, .slice a n cap] 24)) := Kept.alloc (Kept.refl _ _) _
  have hS2 := Kept.alloc hS1 (.cells #[.int .i64 0] 38)
  have HO : Hid (Calls Try.prog 18 #[.agg #[.int .i64 le, .int .i64 wi, .slice a n cap]] ((w.alloc (.cells #[.int .i64 le, .int .i64 wi, .slice a n cap] 24)).alloc (.cells #[.int .i64 0] 38)) fun e w' => e = .returned (.tuple #[.pointer none, .bool true]) ∧ Same ((w.alloc (.cells #[.int .i64 le, .int .i64 wi, .slice a n cap] 24)).alloc (.cells #[.int .i64 0] 38)) w') := opened_no le wi a n cap R B _ (hT.same hS2) hn no
  clear hT hn no hS1
  go_enter Try.func5, Try.ntmps5
  go_wp2_with fail
  refine HO.out.mono ?_
  rintro e w2 ⟨rfl, hk2⟩
  have hS3 := hS2.trans hk2
  have HS3 : Hid (Same w w2) := hS3
  clear hk2 hS2 HO hS3
  go_wp2_with fail
  go_loopw [9, 10] (fun x y wr => x = .bool true ∧ y = .int .i64 0 ∧ wr = w2) (fun _ _ _ => 0)
  case atStart => exact ⟨rfl, rfl, rfl⟩
  case round =>
    obtain ⟨rfl, rfl, rfl⟩ := hrel
    go_wp2_with fail
    go_ret3
    exact ⟨_, rfl, HS3.out⟩

set_option maxRecDepth 100000 in
set_option maxHeartbeats 4000000 in
theorem troubled_yes (le wi : Int) (a sa : Option Addr) (n cap sn scap : Nat) (R B K X Y Z : Nat → Int) (w : World) (hT : Ten w a n R B) (hn : n * 16 ≤ 140737488355328) (hsn : sn * 32 ≤ 140737488355328) (hS : Scr w sa sn K X Y Z) (ok : Good le wi n R B) :
    Calls Try.prog 5 #[.agg #[.int .i64 le, .int .i64 wi, .slice a n cap], .slice sa sn scap] w fun e w' => ∃ b t, e = .returned (.tuple #[.pointer (some ⟨b, 0, none⟩), .pointer (some ⟨t, 0, none⟩), .bool true]) ∧ w.heap.size ≤ b ∧ w.heap.size ≤ t ∧ b ≠ t ∧ PAt w' b ((PC.fresh le wi n R B n 2 (-1)).runTo K X Y Z sn) ∧ ClockAt w' t ((PC.fresh le wi n R B n 2 (-1)).runTo K X Y Z sn).now ∧ Same w w' := by
  have hS1 : Same w (w.alloc (.cells #[.int .i64 le, .int .i64 wi, .slice a n cap] 24)) := Kept.alloc (Kept.refl _ _) _
  have hS2 := Kept.alloc hS1 (.cells #[.int .i64 0] 38)
  have HO : Hid (Calls Try.prog 18 #[.agg #[.int .i64 le, .int .i64 wi, .slice a n cap]] ((w.alloc (.cells #[.int .i64 le, .int .i64 wi, .slice a n cap] 24)).alloc (.cells #[.int .i64 0] 38)) fun e w' => ∃ b, e = .returned (.tuple #[.pointer (some ⟨b, 0, none⟩), .bool true]) ∧ ((w.alloc (.cells #[.int .i64 le, .int .i64 wi, .slice a n cap] 24)).alloc (.cells #[.int .i64 0] 38)).heap.size ≤ b ∧ PAt w' b (PC.fresh le wi n R B n 2 (-1)) ∧ Same ((w.alloc (.cells #[.int .i64 le, .int .i64 wi, .slice a n cap] 24)).alloc (.cells #[.int .i64 0] 38)) w') := opened_yes le wi a n cap R B _ (hT.same hS2) hn ok
  have hcl0 : ClockAt ((w.alloc (.cells #[.int .i64 le, .int .i64 wi, .slice a n cap] 24)).alloc (.cells #[.int .i64 0] 38)) (w.heap.size + 1) 0 := BAt.made' _ _ (by simp) _ _
  have sni : (sn : Int) < 9000000000000 := by omega
  have HS : Hid (Scr w sa sn K X Y Z) := hS
  have F0 : PC.fresh le wi n R B n 2 (-1) = (PC.fresh le wi n R B n 2 (-1)).runTo K X Y Z 0 := rfl
  have FN : ((PC.fresh le wi n R B n 2 (-1)).runTo K X Y Z 0).now = 0 := rfl
  have FSt : ∀ i, (PC.fresh le wi n R B n 2 (-1)).runTo K X Y Z (i + 1) = (((PC.fresh le wi n R B n 2 (-1)).runTo K X Y Z i).call (K i) (X i) (Y i) (Z i)).2 := fun i => rfl
  have FO : ∀ i, ((PC.fresh le wi n R B n 2 (-1)).runTo K X Y Z i).Ok := fun i => (runTo_sane (sane_fresh ok) K X Y Z i).ok
  clear hT hn ok hsn hS hS1
  generalize (PC.fresh le wi n R B n 2 (-1)).runTo K X Y Z = F at *
  rw [F0] at HO
  generalize PC.fresh le wi n R B n 2 (-1) = fr at *
  subst F0
  have HFS : Hid (∀ i, F (i + 1) = ((F i).call (K i) (X i) (Y i) (Z i)).2) := FSt
  have HFO : Hid (∀ i, (F i).Ok) := FO
  have hcl : ClockAt ((w.alloc (.cells #[.int .i64 le, .int .i64 wi, .slice a n cap] 24)).alloc (.cells #[.int .i64 0] 38)) (w.heap.size + 1) (F 0).now := by
    rw [FN]
    exact hcl0
  clear hcl0
  clear FSt FO
  go_enter Try.func5, Try.ntmps5
  go_wp2_with fail
  refine HO.out.mono ?_
  rintro e w2 ⟨b, rfl, hbl, hp2, hk2⟩
  have hbl2 : w.heap.size + 2 ≤ b := by simpa using hbl
  have hS3 := hS2.trans hk2
  have hcl2 : ClockAt w2 (w.heap.size + 1) (F 0).now := by
    refine BAt.kept (S := fun _ => False) hcl hk2 (fun h => h)
  have HP3 : Hid (PAt w2 b (F 0)) := hp2
  have HC3 : Hid (ClockAt w2 (w.heap.size + 1) (F 0).now) := hcl2
  have HS3 : Hid (Same w w2) := hS3
  have hw2 := hS3.size
  clear hk2 hbl HO hp2 hS2 hcl hcl2 hS3 FN
  go_wp2_with fail
  generalize ht : w.heap.size + 1 = t at *
  have hbt : b ≠ t := by omega
  go_loopw [9, 10] (fun x y wr => ∃ i : Nat, i ≤ sn ∧ x = .bool true ∧ y = .int .i64 i ∧ PAt wr b (F i) ∧ ClockAt wr t (F i).now ∧ Kept (fun q => q = b ∨ q = t) w2 wr) (fun _ y _ => sn - (intOf y).toNat)
  case atStart => exact ⟨0, by omega, rfl, rfl, HP3.out, HC3.out, Kept.refl _ _⟩
  case round =>
    obtain ⟨i, hi, rfl, rfl, hp, hc, hkx⟩ := hrel
    clear HP3 HC3
    have hbelx : Below w.heap.size w wr := by
      have hS := HS3.out
      have hb0 := hkx.size
      exact ⟨hkx.os.trans hS.os, hkx.tape.trans hS.tape, hkx.output.trans hS.output, Nat.le_trans hS.size hkx.size, fun q hq => (hkx.block q (by omega) (by rintro (e | e) <;> omega)).trans (hS.block q (by omega) (fun h => h))⟩
    by_cases hlt : i < sn
    · rcases HS.out with h0 | ⟨sb, off, rfl, hsb, hcs⟩
      · omega
      obtain ⟨r0, r1, r2, r3⟩ := hcs i hlt
      have c0 := (hbelx.cell (p := ⟨sb, off + i * 4, none⟩) hsb).trans r0
      have c1 := (hbelx.cell (p := ⟨sb, off + i * 4 + 1, none⟩) hsb).trans r1
      have c2 := (hbelx.cell (p := ⟨sb, off + i * 4 + 2, none⟩) hsb).trans r2
      have c3 := (hbelx.cell (p := ⟨sb, off + i * 4 + 3, none⟩) hsb).trans r3
      have hii : (i : Int) < sn := by omega
      have hszx := hbelx.size
      have hsbx : sb < wr.heap.size := by omega
      have hF1 := HFS.out i
      have hok := HFO.out i
      have hok1 := HFO.out (i + 1)
      clear hcs HFS HFO
      generalize F i = s at *
      generalize hsx : F (i + 1) = s' at *
      have HSX : Hid (F (i + 1) = s') := hsx
      clear hsx
      generalize K i = k at *
      generalize X i = x at *
      generalize Y i = y at *
      generalize Z i = z at *
      have hbl := hp.lt
      have hcl := BAt.lt hc
      go_wp2_with fail
      refine (called_any b s hok k x y z _ hp).mono ?_
      rintro e w4 ⟨rfl, hp4, hk4⟩
      rw [← hF1] at hp4
      have hB := call_now s k x y z
      have hC : k = 1 ∧ (s.call k x y z).1.e = 0 → 0 ≤ x ∧ x ≤ 1000000000000 - s.now ∧ (s.call k x y z).2.now = s.now + x := by
        rintro ⟨rfl, he⟩
        exact call_pass s x y z he
      rw [← hF1] at hB hC
      generalize (s.call k x y z).1 = cl at *
      obtain ⟨xa, xb, xc, xd, xe⟩ := cl
      dsimp only at hB hC hp4
      simp only [SaidR.v]
      have n0 := hok.now0
      have n1 := hok.now1
      generalize hnw : s.now = now at *
      have hsb4 := hk4.size
      have hc4 := BAt.kept hc hk4 (by omega)
      have hk4' := hkx.trans (hk4.mono (fun q e => Or.inl e))
      have hbel4 : Below w.heap.size w w4 := hbelx.trans (hk4.below hbelx.size (fun q hq e => by omega))
      have B5 := BAt.made' w4 w4.heap.size rfl 52 #[.int .i64 xa, .int .i64 xb, .int .i64 xc, .int .i64 xd, .int .i64 xe]
      have hc5 := BAt.alloc hc4 (.cells #[.int .i64 xa, .int .i64 xb, .int .i64 xc, .int .i64 xd, .int .i64 xe] 52)
      have hp5 := PAt.alloc hp4 (.cells #[.int .i64 xa, .int .i64 xb, .int .i64 xc, .int .i64 xd, .int .i64 xe] 52)
      have hk5 := Kept.alloc hk4' (.cells #[.int .i64 xa, .int .i64 xb, .int .i64 xc, .int .i64 xd, .int .i64 xe] 52)
      have q5 := Kept.alloc (Kept.refl (fun _ => False) w4) (.cells #[.int .i64 xa, .int .i64 xb, .int .i64 xc, .int .i64 xd, .int .i64 xe] 52)
      have hbel5 := hbel4.trans (q5.below hbel4.size (fun q hq e => e))
      have hsz5 := hbel5.size
      have htg : t < w4.heap.size := by omega
      have HB : Hid (¬ (k = 1 ∧ xe = 0) → s'.now = now) := hB
      have HC : Hid (k = 1 ∧ xe = 0 → 0 ≤ x ∧ x ≤ 1000000000000 - now ∧ s'.now = now + x) := hC
      clear hB hC hc4 hk4' hk4 hok hc hp hkx c0 c1 c2 c3 hnw hbel4 q5 hF1
      go_wp2_with fail
      generalize w4.alloc (.cells #[.int .i64 xa, .int .i64 xb, .int .i64 xc, .int .i64 xd, .int .i64 xe] 52) = W5 at *
      generalize w4.heap.size = g5 at *
      have c0 := (hbel5.cell (p := ⟨sb, off + i * 4, none⟩) hsb).trans r0
      have c1 := (hbel5.cell (p := ⟨sb, off + i * 4 + 1, none⟩) hsb).trans r1
      have c2 := (hbel5.cell (p := ⟨sb, off + i * 4 + 2, none⟩) hsb).trans r2
      have c3 := (hbel5.cell (p := ⟨sb, off + i * 4 + 3, none⟩) hsb).trans r3
      have c4 : W5.cell? ⟨g5, 4, none⟩ = some (.int .i64 xe) := B5.cell 4
      have hg5 := B5.lt
      have hsb5 : sb < W5.heap.size := by omega
      clear r0 r1 r2 r3 hbel5 hbelx
      by_cases h1 : k = 1 ∧ xe = 0
      · obtain ⟨x0, x1, en⟩ := HC.out h1
        obtain ⟨rfl, rfl⟩ := h1
        have HT : Hid (∀ W, ClockAt W t now → Calls Try.prog 20 #[.pointer (some ⟨t, 0, none⟩), .agg #[.int .i64 1, .int .i64 x, .int .i64 y, .int .i64 z], .int .i64 0] W fun e' w' => e' = .returned (.bool true) ∧ ClockAt w' t (now + x) ∧ Wrote t W w') := fun W h => told_pass t x y z now x0 x1 n0 n1 W h
        clear HB HC x0 x1
        have hst : ¬ sb = t := by omega
        have hgt : ¬ g5 = t := by omega
        go_region_held3 (fun w' => w'.cell? ⟨sb, off + i * 4, none⟩ = some (.int .i64 1) ∧ w'.cell? ⟨sb, off + i * 4 + 1, none⟩ = some (.int .i64 x) ∧ w'.cell? ⟨sb, off + i * 4 + 2, none⟩ = some (.int .i64 y) ∧ w'.cell? ⟨sb, off + i * 4 + 3, none⟩ = some (.int .i64 z) ∧ w'.cell? ⟨g5, 4, none⟩ = some (.int .i64 0)) (go_keep) (first | (go_at_call 20; refine (HT.out _ (BAt.drew hc5)).mono ?_; rintro e w6 ⟨rfl, hc6, hk6⟩; have v0 : w6.cell? ⟨sb, off + i * 4, none⟩ = some (.int .i64 1) := cell_kept hk6 hsb5 hst c0; have v1 : w6.cell? ⟨sb, off + i * 4 + 1, none⟩ = some (.int .i64 x) := cell_kept hk6 hsb5 hst c1; have v2 : w6.cell? ⟨sb, off + i * 4 + 2, none⟩ = some (.int .i64 y) := cell_kept hk6 hsb5 hst c2; have v3 : w6.cell? ⟨sb, off + i * 4 + 3, none⟩ = some (.int .i64 z) := cell_kept hk6 hsb5 hst c3; have v4 : w6.cell? ⟨g5, 4, none⟩ = some (.int .i64 0) := cell_kept hk6 hg5 hgt c4))
        have hp6 := PAt.kept (PAt.drew hp5) hk6 (by omega)
        have hk6' := (Kept.drew hk5).trans (hk6.mono (fun q e => Or.inr e))
        rw [← en] at hc6
        go_wp2_with fail
        exact ⟨⟨i + 1, by omega, rfl, by go_num, by rw [HSX.out]; exact hp6, by rw [HSX.out]; exact hc6, hk6'⟩, by simp [intOf]; omega⟩
      · have en := HB.out h1
        have HT : Hid (∀ W, Calls Try.prog 20 #[.pointer (some ⟨t, 0, none⟩), .agg #[.int .i64 k, .int .i64 x, .int .i64 y, .int .i64 z], .int .i64 xe] W fun e' w' => e' = .returned (.bool true) ∧ Same W w') := fun W => told_not t k x y z xe (by omega) W
        clear HB HC h1
        have hst : ¬ False := fun h => h
        have hgt : ¬ False := fun h => h
        go_region_held3 (fun w' => w'.cell? ⟨sb, off + i * 4, none⟩ = some (.int .i64 k) ∧ w'.cell? ⟨sb, off + i * 4 + 1, none⟩ = some (.int .i64 x) ∧ w'.cell? ⟨sb, off + i * 4 + 2, none⟩ = some (.int .i64 y) ∧ w'.cell? ⟨sb, off + i * 4 + 3, none⟩ = some (.int .i64 z) ∧ w'.cell? ⟨g5, 4, none⟩ = some (.int .i64 xe)) (go_keep) (first | (go_at_call 20; refine (HT.out _).mono ?_; rintro e w6 ⟨rfl, hk6⟩; have v0 : w6.cell? ⟨sb, off + i * 4, none⟩ = some (.int .i64 k) := cell_kept hk6 hsb5 hst c0; have v1 : w6.cell? ⟨sb, off + i * 4 + 1, none⟩ = some (.int .i64 x) := cell_kept hk6 hsb5 hst c1; have v2 : w6.cell? ⟨sb, off + i * 4 + 2, none⟩ = some (.int .i64 y) := cell_kept hk6 hsb5 hst c2; have v3 : w6.cell? ⟨sb, off + i * 4 + 3, none⟩ = some (.int .i64 z) := cell_kept hk6 hsb5 hst c3; have v4 : w6.cell? ⟨g5, 4, none⟩ = some (.int .i64 xe) := cell_kept hk6 hg5 hgt c4))
        have hp6 := (PAt.drew hp5).same hk6
        have hc6 := BAt.kept (BAt.drew hc5) hk6 (fun h => h)
        have hk6' := (Kept.drew hk5).trans (hk6.mono (fun q e => e.elim))
        rw [← en] at hc6
        go_wp2_with fail
        exact ⟨⟨i + 1, by omega, rfl, by go_num, by rw [HSX.out]; exact hp6, by rw [HSX.out]; exact hc6, hk6'⟩, by simp [intOf]; omega⟩
    · have hge : decide ((i : Int) < (sn : Int)) = false := decide_eq_false (by omega)
      obtain rfl : i = sn := by omega
      go_wp2_with fail
      go_ret3
      exact ⟨b, t, rfl, by omega, by omega, hbt, hp, hc, hbelx.os, hbelx.tape, hbelx.output, hbelx.size, fun q hq _ => hbelx.block q hq⟩

end Go.Proofs.Ytpfahgogjeignab
