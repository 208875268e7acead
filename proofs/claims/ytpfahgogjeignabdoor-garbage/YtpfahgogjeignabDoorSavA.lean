/-
  Saved: its walk.
-/
import Derived.Test.YtpfahgogjeignabDoorWaitA
import Derived.Test.YtpfahgogjeignabDoorProS
set_option linter.unusedVariables false
set_option linter.unusedSimpArgs false
namespace Go.Proofs.YtpfahgogjeignabDoor
open Go.RowKit
attribute [local go_sem ↓] Go.wp_at_zero Go.wp_at_succ

set_option maxHeartbeats 1000000 in
theorem same_refl (x : SaidR) (w : World) : Calls Tryd.prog 9 #[x.v, x.v] w fun e w' => e = .returned (.bool true) ∧ Same w w' := by
  obtain ⟨xa, xb, xc, xd, xe⟩ := x
  simp only [SaidR.v]
  go_enter Tryd.func9, Tryd.ntmps9
  go_wp2
  go_ret
  exact ⟨rfl, Kept.alloc (Kept.alloc (Kept.refl _ _) _) _⟩

theorem runTo_fit {s : PC} {m : Nat} (h : Fit s m) (K X Y Z : Nat → Int) (i : Nat) (hi : ((m + i : Nat) : Int) < 9000000000000000000) : Fit (s.runTo K X Y Z i) (m + i) := by
  induction i with
  | zero => exact h
  | succ i ih => exact fit_call (ih (by omega)) (by omega) _ _ _ _

theorem BAt.of {w : World} {b : Nat} {t : TypeId} {arr arr' : Array Value} (h : BAt w b t arr) (e : arr = arr') : BAt w b t arr' := by rw [e] at h; exact h

set_option maxRecDepth 100000 in
set_option maxHeartbeats 1000000 in
theorem saved_no (le wi : Int) (a sa ma : Option Addr) (n cap sn scap mn mcap : Nat) (R B : Nat → Int) (w : World) (hT : Ten w a n R B) (hn : n * 16 ≤ 140737488355328) (no : ¬ Good le wi n R B) :
    Calls Tryd.prog 3 #[.agg #[.int .i64 le, .int .i64 wi, .slice a n cap], .slice sa sn scap, .slice ma mn mcap] w fun e w' => e = .returned (.bool true) ∧ Below w.heap.size w w' := by
  have hS1 : Same w (w.alloc (.cells #[.int .i64 le, .int .i64 wi, .slice a n cap] 24)) := Kept.alloc (Kept.refl _ _) _
  have HO : Hid (Calls Tryd.prog 5 #[.agg #[.int .i64 le, .int .i64 wi, .slice a n cap], .slice sa sn scap] (w.alloc (.cells #[.int .i64 le, .int .i64 wi, .slice a n cap] 24)) fun e w' => ∃ t, e = .returned (.tuple #[.pointer none, .pointer (some ⟨t, 0, none⟩), .bool true]) ∧ Same (w.alloc (.cells #[.int .i64 le, .int .i64 wi, .slice a n cap] 24)) w') := troubled_no le wi a sa n cap sn scap R B _ (hT.same hS1) hn no
  clear hT hn no
  go_enter Tryd.func3, Tryd.ntmps3
  go_wp2_with fail
  refine HO.out.mono ?_
  rintro e w2 ⟨t, rfl, hk2⟩
  go_wp2_with fail
  go_ret
  exact ⟨rfl, (hS1.trans hk2).below (Nat.le_refl _) (fun _ _ h => h)⟩

set_option maxRecDepth 100000 in
set_option maxHeartbeats 8000000 in
theorem saved_yes (le wi : Int) (a sa ma : Option Addr) (n cap sn scap mn mcap : Nat) (R B K X Y Z K2 X2 Y2 Z2 : Nat → Int) (w : World) (hT : Ten w a n R B) (hn : n * 16 ≤ 140737488355328) (hsn : sn * 32 ≤ 140737488355328) (hmn : mn * 32 ≤ 140737488355328) (hS : Scr w sa sn K X Y Z) (hM : Scr w ma mn K2 X2 Y2 Z2) (hlib : Lib w) (ok : Good le wi n R B) :
    Calls Tryd.prog 3 #[.agg #[.int .i64 le, .int .i64 wi, .slice a n cap], .slice sa sn scap, .slice ma mn mcap] w fun e w' => e = .returned (.bool true) ∧ Below w.heap.size w w' := by
  have hS1 : Same w (w.alloc (.cells #[.int .i64 le, .int .i64 wi, .slice a n cap] 24)) := Kept.alloc (Kept.refl _ _) _
  have hB1 := BAt.made' w w.heap.size rfl 24 #[.int .i64 le, .int .i64 wi, .slice a n cap]
  have HO : Hid (∀ W, Same w W → Calls Tryd.prog 5 #[.agg #[.int .i64 le, .int .i64 wi, .slice a n cap], .slice sa sn scap] W fun e w' => ∃ b t, e = .returned (.tuple #[.pointer (some ⟨b, 0, none⟩), .pointer (some ⟨t, 0, none⟩), .bool true]) ∧ W.heap.size ≤ b ∧ W.heap.size ≤ t ∧ b ≠ t ∧ PAt w' b ((PC.fresh le wi n R B n 2 (-1)).runTo K X Y Z sn) ∧ ClockAt w' t ((PC.fresh le wi n R B n 2 (-1)).runTo K X Y Z sn).now ∧ Same W w') := fun W hW => troubled_yes le wi a sa n cap sn scap R B K X Y Z _ (hT.same hW) hn hsn (hS.same (hW.below (Nat.le_refl _) (fun _ _ h => h))) ok
  have hfit : Fit ((PC.fresh le wi n R B n 2 (-1)).runTo K X Y Z sn) (0 + sn) := runTo_fit (fit_fresh ok) K X Y Z sn (by omega)
  have hct : ((PC.fresh le wi n R B n 2 (-1)).runTo K X Y Z sn).count = (n : Int) := (fix_count (runTo_fx _ K X Y Z sn)).1
  have n4 := ok.ten.2.1
  have n4i : (n : Int) ≤ 4 := by omega
  have sni : (sn : Int) < 9000000000000 := by omega
  have mni : (mn : Int) < 9000000000000 := by omega
  have HM : Hid (Scr w ma mn K2 X2 Y2 Z2) := hM
  have LIB : Hid (Lib w) := hlib
  clear hT hn hsn hS ok hM hlib hmn
  generalize (PC.fresh le wi n R B n 2 (-1)).runTo K X Y Z sn = st at *
  have HSV : Hid (∀ b W, Lib W → PAt W b st → Calls Tryd.prog 6 #[.pointer (some ⟨b, 0, none⟩)] W fun e w' => e = .returned (.string (saveText st)) ∧ Same W w') := fun b W hl hp => save_any b st _ hfit (by omega) W hl hp
  have HLD : Hid (∀ W, Lib W → Calls Tryd.prog 7 #[.string (saveText st)] W fun e w' => ∃ b', e = .returned (.tuple #[.pointer (some ⟨b', 0, none⟩), .int .i64 0]) ∧ W.heap.size ≤ b' ∧ PAt w' b' st ∧ Same W w') := fun W hl => load_saved st _ hfit (by omega) W hl
  generalize saveText st = T at *
  have GO : Hid (∀ i, (st.runTo K2 X2 Y2 Z2 i).Ok) := fun i => (runTo_sane hfit.sane K2 X2 Y2 Z2 i).ok
  have GS : Hid (∀ i, st.runTo K2 X2 Y2 Z2 (i + 1) = ((st.runTo K2 X2 Y2 Z2 i).call (K2 i) (X2 i) (Y2 i) (Z2 i)).2) := fun i => rfl
  have G0 : Hid (st = st.runTo K2 X2 Y2 Z2 0) := rfl
  generalize st.runTo K2 X2 Y2 Z2 = G at *
  clear hfit hct
  go_enter Tryd.func3, Tryd.ntmps3
  go_wp2_with fail
  refine (HO.out _ hS1).mono ?_
  rintro e w2 ⟨b1, t1, rfl, hb1, _, _, hp2, _, hk2⟩
  have hS2 := hS1.trans hk2
  have hB2 := hB1.kept hk2 (fun h => h)
  have b1l : w.heap.size + 1 ≤ b1 := by simpa using hb1
  have c0 : w2.cell? ⟨w.heap.size, 0, none⟩ = some (.int .i64 le) := hB2.cell 0
  have c1 : w2.cell? ⟨w.heap.size, 1, none⟩ = some (.int .i64 wi) := hB2.cell 1
  have c2 : w2.cell? ⟨w.heap.size, 2, none⟩ = some (.slice a n cap) := hB2.cell 2
  clear hS1 hB1 hb1 hk2
  go_wp2_with fail
  refine (HO.out _ hS2).mono ?_
  rintro e w3 ⟨b2, t2, rfl, hb2, _, _, hp3, _, hk3⟩
  have hS3 := hS2.trans hk3
  have hB3 := hB2.kept hk3 (fun h => h)
  have q3 := hp2.same hk3
  clear hS2 hB2 hb2 hk3 hp2 c0 c1 c2 HO
  go_wp2_with fail
  refine (HSV.out b1 _ (LIB.out.below (hS3.below (Nat.le_refl _) (fun _ _ h => h))) q3).mono ?_
  rintro e w4 ⟨rfl, hk4⟩
  have hS4 := hS3.trans hk4
  have hB4 := hB3.kept hk4 (fun h => h)
  have q4 := q3.same hk4
  have p4 := hp3.same hk4
  clear hS3 hB3 hk4 hp3 q3
  go_wp2_with fail
  refine (HSV.out b1 _ (LIB.out.below (hS4.below (Nat.le_refl _) (fun _ _ h => h))) q4).mono ?_
  rintro e w5 ⟨rfl, hk5⟩
  have hS5 := hS4.trans hk5
  have hB5 := hB4.kept hk5 (fun h => h)
  have q5 := q4.same hk5
  have p5 := p4.same hk5
  clear hS4 hB4 hk5 p4 q4
  go_wp2_with fail
  refine (HSV.out b2 _ (LIB.out.below (hS5.below (Nat.le_refl _) (fun _ _ h => h))) p5).mono ?_
  rintro e w6 ⟨rfl, hk6⟩
  have hS6 := hS5.trans hk6
  have hB6 := hB5.kept hk6 (fun h => h)
  have q6 := q5.same hk6
  have b1s := q6.lt
  clear hS5 hB5 hk6 p5 q5 HSV
  go_wp2_with fail
  refine (HLD.out _ (LIB.out.below (hS6.below (Nat.le_refl _) (fun _ _ h => h)))).mono ?_
  rintro e w7 ⟨b3, rfl, hb3, p7, hk7⟩
  have hS7 := hS6.trans hk7
  have hB7 := hB6.kept hk7 (fun h => h)
  have q7 := q6.same hk7
  have b3s := p7.lt
  clear hS6 hB6 hk7 q6
  go_wp2_with fail
  refine (HLD.out _ (LIB.out.below (hS7.below (Nat.le_refl _) (fun _ _ h => h)))).mono ?_
  rintro e w8 ⟨b4, rfl, hb4, r8, hk8⟩
  have hS8 := hS7.below (Nat.le_refl _) (fun _ _ h => h) |>.trans (hk8.below hS7.size (fun _ _ h => h))
  have hB8 := hB7.kept hk8 (fun h => h)
  have q8 := q7.same hk8
  have p8 := p7.same hk8
  rw [G0.out] at q8 p8 r8
  have Q8 : Hid (PAt w8 b1 (G 0)) := q8
  have P8 : Hid (PAt w8 b3 (G 0)) := p8
  have R8 : Hid (PAt w8 b4 (G 0)) := r8
  have B8 : Hid (BAt w8 w.heap.size 24 #[.int .i64 le, .int .i64 wi, .slice a n cap]) := hB8
  have L8 : Hid (Below w.heap.size w w8) := hS8
  have b34 : b3 ≠ b4 := by omega
  have b13 : b1 ≠ b3 := by omega
  have b14 : b1 ≠ b4 := by omega
  have b3l : w.heap.size + 1 ≤ b3 := by omega
  have b4l : w.heap.size + 1 ≤ b4 := by omega
  clear hS7 hB7 hk8 q7 p7 q8 p8 r8 hB8 hS8 HLD LIB hb3 hb4 b3s b1s
  go_wp2_with fail
  go_loopw [9, 19] (fun x y wr => ∃ i : Nat, i ≤ mn ∧ x = .bool true ∧ y = .int .i64 i ∧ PAt wr b1 (G i) ∧ PAt wr b3 (G i) ∧ PAt wr b4 (G 0) ∧ BAt wr w.heap.size 24 #[.int .i64 le, .int .i64 wi, .slice a n cap] ∧ Below w.heap.size w wr) (fun _ y _ => mn - (intOf y).toNat)
  case atStart => exact ⟨0, by omega, rfl, rfl, Q8.out, P8.out, R8.out, B8.out, L8.out⟩
  case round =>
    obtain ⟨i, hi, rfl, rfl, hq, hp, hr, hB, hbel⟩ := hrel
    clear Q8 P8 R8 B8 L8
    by_cases hlt : i < mn
    · rcases HM.out with h0 | ⟨sb, off, rfl, hsb, hcs⟩
      · omega
      obtain ⟨r0, r1, r2, r3⟩ := hcs i hlt
      have c0 := (hbel.cell (p := ⟨sb, off + i * 4, none⟩) hsb).trans r0
      have c1 := (hbel.cell (p := ⟨sb, off + i * 4 + 1, none⟩) hsb).trans r1
      have c2 := (hbel.cell (p := ⟨sb, off + i * 4 + 2, none⟩) hsb).trans r2
      have c3 := (hbel.cell (p := ⟨sb, off + i * 4 + 3, none⟩) hsb).trans r3
      have hii : (i : Int) < mn := by omega
      have hszx := hbel.size
      have hsbx : sb < wr.heap.size := by omega
      have hG1 := GS.out i
      have hGO := GO.out i
      clear hcs
      generalize hGi : G i = s at *
      generalize hGj : G (i + 1) = s' at *
      generalize K2 i = k at *
      generalize X2 i = x at *
      generalize Y2 i = y at *
      generalize Z2 i = z at *
      have HGJ : Hid (G (i + 1) = s') := hGj
      have C1 := called_any b1 s hGO k x y z wr hq
      have C3 : Hid (∀ W, PAt W b3 s → Calls Tryd.prog 8 #[.pointer (some ⟨b3, 0, none⟩), .agg #[.int .i64 k, .int .i64 x, .int .i64 y, .int .i64 z]] W fun e w' => e = .returned (s.call k x y z).1.v ∧ PAt w' b3 (s.call k x y z).2 ∧ Wrote b3 W w') := fun W hW => called_any b3 s hGO k x y z W hW
      rw [← hG1] at C1 C3
      generalize (s.call k x y z).1 = sd at *
      have hq1 := hq.lt
      have hp1 := hp.lt
      have hr1 := hr.lt
      clear hG1 hGO hGi hGj
      go_wp2_with fail
      refine C1.mono ?_
      rintro e w9 ⟨rfl, hq9, hk9⟩
      have hp9 := PAt.kept hp hk9 (Ne.symm b13)
      have hr9 := PAt.kept hr hk9 (Ne.symm b14)
      have hB9 := hB.kept hk9 (by omega)
      have bel9 := hbel.trans (hk9.below hszx (fun q hq e => by omega))
      have sz9 := hk9.size
      obtain ⟨xa, xb, xc, xd, xe⟩ := sd
      have E1 := same_refl ⟨xa, xb, xc, xd, xe⟩
      simp only [SaidR.v] at C3 E1 ⊢
      have ES : Hid (∀ W, Calls Tryd.prog 9 #[.agg #[.int .i64 xa, .int .i64 xb, .int .i64 xc, .int .i64 xd, .int .i64 xe], .agg #[.int .i64 xa, .int .i64 xb, .int .i64 xc, .int .i64 xd, .int .i64 xe]] W fun e w' => e = .returned (.bool true) ∧ Same W w') := E1
      have d0 := (bel9.cell (p := ⟨sb, off + i * 4, none⟩) hsb).trans r0
      have d1 := (bel9.cell (p := ⟨sb, off + i * 4 + 1, none⟩) hsb).trans r1
      have d2 := (bel9.cell (p := ⟨sb, off + i * 4 + 2, none⟩) hsb).trans r2
      have d3 := (bel9.cell (p := ⟨sb, off + i * 4 + 3, none⟩) hsb).trans r3
      have hsb9 : sb < w9.heap.size := by omega
      have hqa := PAt.alloc hq9 (.cells #[.int .i64 xa, .int .i64 xb, .int .i64 xc, .int .i64 xd, .int .i64 xe] 35)
      have hpa := PAt.alloc hp9 (.cells #[.int .i64 xa, .int .i64 xb, .int .i64 xc, .int .i64 xd, .int .i64 xe] 35)
      have hra := PAt.alloc hr9 (.cells #[.int .i64 xa, .int .i64 xb, .int .i64 xc, .int .i64 xd, .int .i64 xe] 35)
      have hBa := hB9.alloc (.cells #[.int .i64 xa, .int .i64 xb, .int .i64 xc, .int .i64 xd, .int .i64 xe] 35)
      have hsa := BAt.made' w9 w9.heap.size rfl 35 #[.int .i64 xa, .int .i64 xb, .int .i64 xc, .int .i64 xd, .int .i64 xe]
      have bela := bel9.alloc (by omega) (.cells #[.int .i64 xa, .int .i64 xb, .int .i64 xc, .int .i64 xd, .int .i64 xe] 35)
      have b1w : b1 < w9.heap.size := by omega
      have b3w : b3 < w9.heap.size := by omega
      clear C1 E1 hq hp hr hB hbel hq9 hp9 hr9 hB9 hk9 c0 c1 c2 c3
      go_wp2_with fail
      refine (C3.out _ hpa).mono ?_
      rintro e w10 ⟨rfl, hp10, hk10⟩
      have hq10 := PAt.kept hqa hk10 b13
      have hr10 := PAt.kept hra hk10 (Ne.symm b34)
      have hB10 := hBa.kept hk10 (by omega)
      have hs10 := hsa.kept hk10 (by omega)
      have bel10 := bela.trans (hk10.below bela.size (fun q hq e => by omega))
      have hqb := PAt.alloc hq10 (.cells #[.int .i64 xa, .int .i64 xb, .int .i64 xc, .int .i64 xd, .int .i64 xe] 35)
      have hpb := PAt.alloc hp10 (.cells #[.int .i64 xa, .int .i64 xb, .int .i64 xc, .int .i64 xd, .int .i64 xe] 35)
      have hrb := PAt.alloc hr10 (.cells #[.int .i64 xa, .int .i64 xb, .int .i64 xc, .int .i64 xd, .int .i64 xe] 35)
      have hBb := hB10.alloc (.cells #[.int .i64 xa, .int .i64 xb, .int .i64 xc, .int .i64 xd, .int .i64 xe] 35)
      have hsb' := hs10.alloc (.cells #[.int .i64 xa, .int .i64 xb, .int .i64 xc, .int .i64 xd, .int .i64 xe] 35)
      have hsc := BAt.made' w10 w10.heap.size rfl 35 #[.int .i64 xa, .int .i64 xb, .int .i64 xc, .int .i64 xd, .int .i64 xe]
      have belb := bel10.alloc bel10.size (.cells #[.int .i64 xa, .int .i64 xb, .int .i64 xc, .int .i64 xd, .int .i64 xe] 35)
      have g9 := hs10.lt
      have v0 : (w10.alloc (.cells #[.int .i64 xa, .int .i64 xb, .int .i64 xc, .int .i64 xd, .int .i64 xe] 35)).cell? ⟨w9.heap.size, 0, none⟩ = some (.int .i64 xa) := hsb'.cell 0
      have v1 : (w10.alloc (.cells #[.int .i64 xa, .int .i64 xb, .int .i64 xc, .int .i64 xd, .int .i64 xe] 35)).cell? ⟨w9.heap.size, 1, none⟩ = some (.int .i64 xb) := hsb'.cell 1
      have v2 : (w10.alloc (.cells #[.int .i64 xa, .int .i64 xb, .int .i64 xc, .int .i64 xd, .int .i64 xe] 35)).cell? ⟨w9.heap.size, 2, none⟩ = some (.int .i64 xc) := hsb'.cell 2
      have v3 : (w10.alloc (.cells #[.int .i64 xa, .int .i64 xb, .int .i64 xc, .int .i64 xd, .int .i64 xe] 35)).cell? ⟨w9.heap.size, 3, none⟩ = some (.int .i64 xd) := hsb'.cell 3
      have v4 : (w10.alloc (.cells #[.int .i64 xa, .int .i64 xb, .int .i64 xc, .int .i64 xd, .int .i64 xe] 35)).cell? ⟨w9.heap.size, 4, none⟩ = some (.int .i64 xe) := hsb'.cell 4
      clear hqa hpa hra hBa hsa hp10 hk10 hq10 hr10 hB10 bel10 bela C3 d0 d1 d2 d3
      go_wp2_with fail
      generalize w10.alloc (.cells #[.int .i64 xa, .int .i64 xb, .int .i64 xc, .int .i64 xd, .int .i64 xe] 35) = W11 at *
      refine (ES.out _).mono ?_
      rintro e w12 ⟨rfl, hk12⟩
      have hq12 := hqb.same hk12
      have hp12 := hpb.same hk12
      have hr12 := hrb.same hk12
      have hB12 := hBb.kept hk12 (fun h => h)
      have bel12 := belb.trans (hk12.below belb.size (fun _ _ h => h))
      clear hqb hpb hrb hBb belb
      go_wp2_with fail
      exact ⟨⟨i + 1, by omega, rfl, by go_num, by rw [HGJ.out]; exact hq12, by rw [HGJ.out]; exact hp12, hr12, hB12, bel12⟩, by simp [intOf]; omega⟩
    · have hge : decide ((i : Int) < (mn : Int)) = false := decide_eq_false (by omega)
      obtain rfl : i = mn := by omega
      have Q9 : Hid (PAt wr b1 (G i)) := hq
      have R9 : Hid (PAt wr b4 (G 0)) := hr
      have B9 : Hid (BAt wr w.heap.size 24 #[.int .i64 le, .int .i64 wi, .slice a n cap]) := hB
      have L9 : Hid (Below w.heap.size w wr) := hbel
      clear hq hp hr hB hbel
      go_wp2_with fail
      go_loopw [22] (fun y wr2 => ∃ j : Nat, j ≤ i ∧ y = .int .i64 j ∧ PAt wr2 b1 (G i) ∧ PAt wr2 b4 (G j) ∧ BAt wr2 w.heap.size 24 #[.int .i64 le, .int .i64 wi, .slice a n cap] ∧ Below w.heap.size w wr2) (fun y _ => i - (intOf y).toNat)
      case atStart => exact ⟨0, by omega, rfl, Q9.out, R9.out, B9.out, L9.out⟩
      case round =>
        obtain ⟨j, hj, rfl, hq, hr, hB, hbel⟩ := hrel
        clear Q9 R9 B9 L9
        by_cases hlt2 : j < i
        · rcases HM.out with h0 | ⟨sb, off, rfl, hsb, hcs⟩
          · omega
          obtain ⟨r0, r1, r2, r3⟩ := hcs j hlt2
          have c0 := (hbel.cell (p := ⟨sb, off + j * 4, none⟩) hsb).trans r0
          have c1 := (hbel.cell (p := ⟨sb, off + j * 4 + 1, none⟩) hsb).trans r1
          have c2 := (hbel.cell (p := ⟨sb, off + j * 4 + 2, none⟩) hsb).trans r2
          have c3 := (hbel.cell (p := ⟨sb, off + j * 4 + 3, none⟩) hsb).trans r3
          have hjj : (j : Int) < i := by omega
          have hszx := hbel.size
          have hsbx : sb < wr.heap.size := by omega
          have hG1 := GS.out j
          have hGO := GO.out j
          clear hcs r0 r1 r2 r3
          have C4 := called_any b4 (G j) hGO (K2 j) (X2 j) (Y2 j) (Z2 j) wr hr
          rw [← hG1] at C4
          generalize ((G j).call (K2 j) (X2 j) (Y2 j) (Z2 j)).1 = sd at *
          generalize K2 j = k at *
          generalize X2 j = x at *
          generalize Y2 j = y at *
          generalize Z2 j = z at *
          have hq1 := hq.lt
          have hr1 := hr.lt
          clear hG1 hGO
          go_wp2_with fail
          refine C4.mono ?_
          rintro e w9 ⟨rfl, hr9, hk9⟩
          have hq9 := PAt.kept hq hk9 b14
          have hB9 := hB.kept hk9 (by omega)
          have bel9 := hbel.trans (hk9.below hszx (fun q hq e => by omega))
          go_wp2_with fail
          exact ⟨⟨j + 1, by omega, by go_num, hq9, hr9, hB9, bel9⟩, by simp [intOf]; omega⟩
        · have hge2 : decide ((j : Int) < (i : Int)) = false := decide_eq_false (by omega)
          obtain rfl : j = i := by omega
          have hE := GO.out j
          generalize G j = E at *
          have Q9 : Hid (PAt wr b1 E) := hq
          have R9 : Hid (PAt wr b4 E) := hr
          have B9 : Hid (BAt wr w.heap.size 24 #[.int .i64 le, .int .i64 wi, .slice a n cap]) := hB
          have L9 : Hid (Below w.heap.size w wr) := hbel
          have HE : Hid E.Ok := hE
          clear hq hr hB hbel hE GO GS G0
          go_wp2_with fail
          go_loopw [9, 23] (fun x y wr3 => ∃ q : Nat, q ≤ 2 ∧ x = .bool true ∧ y = .int .i64 q ∧ PAt wr3 b1 E ∧ PAt wr3 b4 E ∧ BAt wr3 w.heap.size 24 #[.int .i64 le, .int .i64 wi, .slice a n cap] ∧ Below w.heap.size w wr3) (fun _ y _ => 2 - (intOf y).toNat)
          case atStart => exact ⟨0, by omega, rfl, rfl, Q9.out, R9.out, B9.out, L9.out⟩
          case round =>
            obtain ⟨q, hq2, rfl, rfl, hq, hr, hB, hbel⟩ := hrel
            clear Q9 R9 B9 L9
            by_cases hlt3 : q < 2
            · have hqi : (q : Int) < 2 := by omega
              have C1 := called_any b1 E HE.out 11 (q : Int) 0 0 wr hq
              have C4 : Hid (∀ W, PAt W b4 E → Calls Tryd.prog 8 #[.pointer (some ⟨b4, 0, none⟩), .agg #[.int .i64 11, .int .i64 (q : Int), .int .i64 0, .int .i64 0]] W fun e w' => e = .returned (E.call 11 (q : Int) 0 0).1.v ∧ PAt w' b4 E ∧ Wrote b4 W w') := fun W hW => called_any b4 E HE.out 11 (q : Int) 0 0 W hW
              have C1' : Hid (Calls Tryd.prog 8 #[.pointer (some ⟨b1, 0, none⟩), .agg #[.int .i64 11, .int .i64 (q : Int), .int .i64 0, .int .i64 0]] wr fun e w' => e = .returned (E.call 11 (q : Int) 0 0).1.v ∧ PAt w' b1 E ∧ Wrote b1 wr w') := C1
              clear C1
              generalize (E.call 11 (q : Int) 0 0).1 = sd at *
              obtain ⟨xa, xb, xc, xd, xe⟩ := sd
              have E1 := same_refl ⟨xa, xb, xc, xd, xe⟩
              simp only [SaidR.v] at C4 C1' E1
              have ES : Hid (∀ W, Calls Tryd.prog 9 #[.agg #[.int .i64 xa, .int .i64 xb, .int .i64 xc, .int .i64 xd, .int .i64 xe], .agg #[.int .i64 xa, .int .i64 xb, .int .i64 xc, .int .i64 xd, .int .i64 xe]] W fun e w' => e = .returned (.bool true) ∧ Same W w') := E1
              have hszx := hbel.size
              have hq1 := hq.lt
              have hr1 := hr.lt
              clear E1
              go_wp2_with fail
              refine C1'.out.mono ?_
              rintro e w9 ⟨rfl, hq9, hk9⟩
              have hr9 := PAt.kept hr hk9 (Ne.symm b14)
              have hB9 := hB.kept hk9 (by omega)
              have bel9 := hbel.trans (hk9.below hszx (fun q hq e => by omega))
              have sz9 := hk9.size
              have hqa := PAt.alloc hq9 (.cells #[.int .i64 xa, .int .i64 xb, .int .i64 xc, .int .i64 xd, .int .i64 xe] 35)
              have hra := PAt.alloc hr9 (.cells #[.int .i64 xa, .int .i64 xb, .int .i64 xc, .int .i64 xd, .int .i64 xe] 35)
              have hBa := hB9.alloc (.cells #[.int .i64 xa, .int .i64 xb, .int .i64 xc, .int .i64 xd, .int .i64 xe] 35)
              have hsa := BAt.made' w9 w9.heap.size rfl 35 #[.int .i64 xa, .int .i64 xb, .int .i64 xc, .int .i64 xd, .int .i64 xe]
              have bela := bel9.alloc (by omega) (.cells #[.int .i64 xa, .int .i64 xb, .int .i64 xc, .int .i64 xd, .int .i64 xe] 35)
              have b1w : b1 < w9.heap.size := by omega
              have b4w : b4 < w9.heap.size := by omega
              have sw9 : w.heap.size < w9.heap.size := by have := hB9.lt; omega
              clear C1' hq hr hB hbel hq9 hr9 hB9 hk9 bel9
              go_wp2_with fail
              refine (C4.out _ hra).mono ?_
              rintro e w10 ⟨rfl, hr10, hk10⟩
              have hq10 := PAt.kept hqa hk10 b14
              have hB10 := hBa.kept hk10 (by omega)
              have hs10 := hsa.kept hk10 (by omega)
              have bel10 := bela.trans (hk10.below bela.size (fun q hq e => by omega))
              have hqb := PAt.alloc hq10 (.cells #[.int .i64 xa, .int .i64 xb, .int .i64 xc, .int .i64 xd, .int .i64 xe] 35)
              have hrb := PAt.alloc hr10 (.cells #[.int .i64 xa, .int .i64 xb, .int .i64 xc, .int .i64 xd, .int .i64 xe] 35)
              have hBb := hB10.alloc (.cells #[.int .i64 xa, .int .i64 xb, .int .i64 xc, .int .i64 xd, .int .i64 xe] 35)
              have hsb' := hs10.alloc (.cells #[.int .i64 xa, .int .i64 xb, .int .i64 xc, .int .i64 xd, .int .i64 xe] 35)
              have hsc := BAt.made' w10 w10.heap.size rfl 35 #[.int .i64 xa, .int .i64 xb, .int .i64 xc, .int .i64 xd, .int .i64 xe]
              have belb := bel10.alloc bel10.size (.cells #[.int .i64 xa, .int .i64 xb, .int .i64 xc, .int .i64 xd, .int .i64 xe] 35)
              have g9 := hs10.lt
              have v0 : (w10.alloc (.cells #[.int .i64 xa, .int .i64 xb, .int .i64 xc, .int .i64 xd, .int .i64 xe] 35)).cell? ⟨w9.heap.size, 0, none⟩ = some (.int .i64 xa) := hsb'.cell 0
              have v1 : (w10.alloc (.cells #[.int .i64 xa, .int .i64 xb, .int .i64 xc, .int .i64 xd, .int .i64 xe] 35)).cell? ⟨w9.heap.size, 1, none⟩ = some (.int .i64 xb) := hsb'.cell 1
              have v2 : (w10.alloc (.cells #[.int .i64 xa, .int .i64 xb, .int .i64 xc, .int .i64 xd, .int .i64 xe] 35)).cell? ⟨w9.heap.size, 2, none⟩ = some (.int .i64 xc) := hsb'.cell 2
              have v3 : (w10.alloc (.cells #[.int .i64 xa, .int .i64 xb, .int .i64 xc, .int .i64 xd, .int .i64 xe] 35)).cell? ⟨w9.heap.size, 3, none⟩ = some (.int .i64 xd) := hsb'.cell 3
              have v4 : (w10.alloc (.cells #[.int .i64 xa, .int .i64 xb, .int .i64 xc, .int .i64 xd, .int .i64 xe] 35)).cell? ⟨w9.heap.size, 4, none⟩ = some (.int .i64 xe) := hsb'.cell 4
              clear hqa hra hBa hsa hr10 hk10 hq10 hB10 hs10 bel10 bela C4
              go_wp2_with fail
              generalize w10.alloc (.cells #[.int .i64 xa, .int .i64 xb, .int .i64 xc, .int .i64 xd, .int .i64 xe] 35) = W11 at *
              generalize w10.heap.size = gd at *
              generalize w9.heap.size = gc at *
              refine (ES.out _).mono ?_
              rintro e w12 ⟨rfl, hk12⟩
              have Q12 : Hid (PAt w12 b1 E) := hqb.same hk12
              have R12 : Hid (PAt w12 b4 E) := hrb.same hk12
              have B12 : Hid (BAt w12 w.heap.size 24 #[.int .i64 le, .int .i64 wi, .slice a n cap]) := hBb.kept hk12 (fun h => h)
              have L12 : Hid (Below w.heap.size w w12) := belb.trans (hk12.below belb.size (fun _ _ h => h))
              have S12 : Hid (BAt w12 gc 35 #[.int .i64 xa, .int .i64 xb, .int .i64 xc, .int .i64 xd, .int .i64 xe]) := hsb'.kept hk12 (fun h => h)
              have T12 : Hid (BAt w12 gd 35 #[.int .i64 xa, .int .i64 xb, .int .i64 xc, .int .i64 xd, .int .i64 xe]) := hsc.kept hk12 (fun h => h)
              have gcd : gc ≠ gd := by omega
              clear hqb hrb hBb belb hsb' hsc hk12 v0 v1 v2 v3 v4 ES
              go_wp2_with fail
              go_loopw [9, 26] (fun x y wr4 => ∃ k : Nat, k ≤ n ∧ x = .bool true ∧ y = .int .i64 k ∧ PAt wr4 b1 E ∧ PAt wr4 b4 E ∧ BAt wr4 w.heap.size 24 #[.int .i64 le, .int .i64 wi, .slice a n cap] ∧ Below w.heap.size w wr4 ∧ (∃ xa xb xc xd xe : Int, BAt wr4 gc 35 #[.int .i64 xa, .int .i64 xb, .int .i64 xc, .int .i64 xd, .int .i64 xe]) ∧ ∃ xa xb xc xd xe : Int, BAt wr4 gd 35 #[.int .i64 xa, .int .i64 xb, .int .i64 xc, .int .i64 xd, .int .i64 xe]) (fun _ y _ => n - (intOf y).toNat)
              case atStart => exact ⟨0, by omega, rfl, rfl, Q12.out, R12.out, B12.out, L12.out, ⟨_, _, _, _, _, S12.out⟩, ⟨_, _, _, _, _, T12.out⟩⟩
              case round =>
                obtain ⟨k, hk, rfl, rfl, hq, hr, hB, hbel, ⟨ya, yb, yc, yd, ye, hsc⟩, ⟨za, zb, zc, zd, ze, hsd⟩⟩ := hrel
                clear Q12 R12 B12 L12 S12 T12
                have cc2 : wr.cell? ⟨w.heap.size, 2, none⟩ = some (.slice a n cap) := hB.cell 2
                have hszx := hbel.size
                have hwl := hB.lt
                by_cases hlt4 : k < n
                · have hki : (k : Int) < n := by omega
                  have C1 := called_any b1 E HE.out 12 (q : Int) (k : Int) 0 wr hq
                  have C4 : Hid (∀ W, PAt W b4 E → Calls Tryd.prog 8 #[.pointer (some ⟨b4, 0, none⟩), .agg #[.int .i64 12, .int .i64 (q : Int), .int .i64 (k : Int), .int .i64 0]] W fun e w' => e = .returned (E.call 12 (q : Int) (k : Int) 0).1.v ∧ PAt w' b4 E ∧ Wrote b4 W w') := fun W hW => called_any b4 E HE.out 12 (q : Int) (k : Int) 0 W hW
                  have C1' : Hid (Calls Tryd.prog 8 #[.pointer (some ⟨b1, 0, none⟩), .agg #[.int .i64 12, .int .i64 (q : Int), .int .i64 (k : Int), .int .i64 0]] wr fun e w' => e = .returned (E.call 12 (q : Int) (k : Int) 0).1.v ∧ PAt w' b1 E ∧ Wrote b1 wr w') := C1
                  clear C1
                  generalize (E.call 12 (q : Int) (k : Int) 0).1 = sd at *
                  obtain ⟨xa, xb, xc, xd, xe⟩ := sd
                  have E1 := same_refl ⟨xa, xb, xc, xd, xe⟩
                  simp only [SaidR.v] at C4 C1' E1
                  have ES : Hid (∀ W, Calls Tryd.prog 9 #[.agg #[.int .i64 xa, .int .i64 xb, .int .i64 xc, .int .i64 xd, .int .i64 xe], .agg #[.int .i64 xa, .int .i64 xb, .int .i64 xc, .int .i64 xd, .int .i64 xe]] W fun e w' => e = .returned (.bool true) ∧ Same W w') := E1
                  clear E1
                  go_wp2_with fail
                  refine C1'.out.mono ?_
                  rintro e w13 ⟨rfl, hq13, hk13⟩
                  have hr13 := PAt.kept hr hk13 (Ne.symm b14)
                  have hB13 := hB.kept hk13 (by omega)
                  have hc13 := hsc.kept hk13 (by omega)
                  have hd13 := hsd.kept hk13 (by omega)
                  have bel13 := hbel.trans (hk13.below hszx (fun q hq e => by omega))
                  have p0 : w13.cell? ⟨gc, 0, none⟩ = some (.int .i64 ya) := hc13.cell 0
                  have p1 : w13.cell? ⟨gc, 1, none⟩ = some (.int .i64 yb) := hc13.cell 1
                  have p2 : w13.cell? ⟨gc, 2, none⟩ = some (.int .i64 yc) := hc13.cell 2
                  have p3 : w13.cell? ⟨gc, 3, none⟩ = some (.int .i64 yd) := hc13.cell 3
                  have p4 : w13.cell? ⟨gc, 4, none⟩ = some (.int .i64 ye) := hc13.cell 4
                  have f13 := hc13.free
                  have l13 := hc13.lt
                  have hc14 : BAt (((((w13.setCell ⟨gc, 0, none⟩ (.int .i64 xa)).setCell ⟨gc, 1, none⟩ (.int .i64 xb)).setCell ⟨gc, 2, none⟩ (.int .i64 xc)).setCell ⟨gc, 3, none⟩ (.int .i64 xd)).setCell ⟨gc, 4, none⟩ (.int .i64 xe)) gc 35 #[.int .i64 xa, .int .i64 xb, .int .i64 xc, .int .i64 xd, .int .i64 xe] := BAt.of (((((hc13.set 0 _).set 1 _).set 2 _).set 3 _).set 4 _) rfl
                  have k14 : Wrote gc w13 (((((w13.setCell ⟨gc, 0, none⟩ (.int .i64 xa)).setCell ⟨gc, 1, none⟩ (.int .i64 xb)).setCell ⟨gc, 2, none⟩ (.int .i64 xc)).setCell ⟨gc, 3, none⟩ (.int .i64 xd)).setCell ⟨gc, 4, none⟩ (.int .i64 xe)) := Wrote.set (Wrote.set (Wrote.set (Wrote.set (Wrote.set (Kept.refl _ _) _ _) _ _) _ _) _ _) _ _
                  have hq14 := PAt.kept hq13 k14 (by omega)
                  have hr14 := PAt.kept hr13 k14 (by omega)
                  have hB14 := hB13.kept k14 (by omega)
                  have hd14 := hd13.kept k14 (Ne.symm gcd)
                  have bel14 := bel13.trans (k14.below bel13.size (fun q hq e => by omega))
                  clear C1' hq hr hB hbel hsc hsd hq13 hr13 hB13 hd13 hk13 bel13 k14
                  go_wp2_with fail
                  generalize ((((w13.setCell ⟨gc, 0, none⟩ (.int .i64 xa)).setCell ⟨gc, 1, none⟩ (.int .i64 xb)).setCell ⟨gc, 2, none⟩ (.int .i64 xc)).setCell ⟨gc, 3, none⟩ (.int .i64 xd)).setCell ⟨gc, 4, none⟩ (.int .i64 xe) = W14 at *
                  clear f13 l13 p0 p1 p2 p3 p4
                  refine (C4.out _ hr14).mono ?_
                  rintro e w15 ⟨rfl, hr15, hk15⟩
                  have hq15 := PAt.kept hq14 hk15 b14
                  have hB15 := hB14.kept hk15 (by omega)
                  have hc15 := hc14.kept hk15 (by omega)
                  have hd15 := hd14.kept hk15 (by omega)
                  have bel15 := bel14.trans (hk15.below bel14.size (fun q hq e => by omega))
                  have o0 : w15.cell? ⟨gd, 0, none⟩ = some (.int .i64 za) := hd15.cell 0
                  have o1 : w15.cell? ⟨gd, 1, none⟩ = some (.int .i64 zb) := hd15.cell 1
                  have o2 : w15.cell? ⟨gd, 2, none⟩ = some (.int .i64 zc) := hd15.cell 2
                  have o3 : w15.cell? ⟨gd, 3, none⟩ = some (.int .i64 zd) := hd15.cell 3
                  have o4 : w15.cell? ⟨gd, 4, none⟩ = some (.int .i64 ze) := hd15.cell 4
                  have f15 := hd15.free
                  have l15 := hd15.lt
                  have hd16 : BAt (((((w15.setCell ⟨gd, 0, none⟩ (.int .i64 xa)).setCell ⟨gd, 1, none⟩ (.int .i64 xb)).setCell ⟨gd, 2, none⟩ (.int .i64 xc)).setCell ⟨gd, 3, none⟩ (.int .i64 xd)).setCell ⟨gd, 4, none⟩ (.int .i64 xe)) gd 35 #[.int .i64 xa, .int .i64 xb, .int .i64 xc, .int .i64 xd, .int .i64 xe] := BAt.of (((((hd15.set 0 _).set 1 _).set 2 _).set 3 _).set 4 _) rfl
                  have k16 : Wrote gd w15 (((((w15.setCell ⟨gd, 0, none⟩ (.int .i64 xa)).setCell ⟨gd, 1, none⟩ (.int .i64 xb)).setCell ⟨gd, 2, none⟩ (.int .i64 xc)).setCell ⟨gd, 3, none⟩ (.int .i64 xd)).setCell ⟨gd, 4, none⟩ (.int .i64 xe)) := Wrote.set (Wrote.set (Wrote.set (Wrote.set (Wrote.set (Kept.refl _ _) _ _) _ _) _ _) _ _) _ _
                  have hq16 := PAt.kept hq15 k16 (by omega)
                  have hr16 := PAt.kept hr15 k16 (by omega)
                  have hB16 := hB15.kept k16 (by omega)
                  have hc16 := hc15.kept k16 gcd
                  have bel16 := bel15.trans (k16.below bel15.size (fun q hq e => by omega))
                  clear C4 hq14 hr14 hB14 hc14 hd14 bel14 hk15 hq15 hr15 hB15 hc15 hd15 bel15 k16
                  go_upto_region 38 with fail
                  generalize ((((w15.setCell ⟨gd, 0, none⟩ (.int .i64 xa)).setCell ⟨gd, 1, none⟩ (.int .i64 xb)).setCell ⟨gd, 2, none⟩ (.int .i64 xc)).setCell ⟨gd, 3, none⟩ (.int .i64 xd)).setCell ⟨gd, 4, none⟩ (.int .i64 xe) = W16 at *
                  clear f15 l15 o0 o1 o2 o3 o4
                  have v0 : W16.cell? ⟨gc, 0, none⟩ = some (.int .i64 xa) := hc16.cell 0
                  have v1 : W16.cell? ⟨gc, 1, none⟩ = some (.int .i64 xb) := hc16.cell 1
                  have v2 : W16.cell? ⟨gc, 2, none⟩ = some (.int .i64 xc) := hc16.cell 2
                  have v3 : W16.cell? ⟨gc, 3, none⟩ = some (.int .i64 xd) := hc16.cell 3
                  have v4 : W16.cell? ⟨gc, 4, none⟩ = some (.int .i64 xe) := hc16.cell 4
                  have u0 : W16.cell? ⟨gd, 0, none⟩ = some (.int .i64 xa) := hd16.cell 0
                  have u1 : W16.cell? ⟨gd, 1, none⟩ = some (.int .i64 xb) := hd16.cell 1
                  have u2 : W16.cell? ⟨gd, 2, none⟩ = some (.int .i64 xc) := hd16.cell 2
                  have u3 : W16.cell? ⟨gd, 3, none⟩ = some (.int .i64 xd) := hd16.cell 3
                  have u4 : W16.cell? ⟨gd, 4, none⟩ = some (.int .i64 xe) := hd16.cell 4
                  have l16 := hc16.lt
                  have l17 := hd16.lt
                  go_wp2_with fail
                  refine (ES.out _).mono ?_
                  rintro e w17 ⟨rfl, hk17⟩
                  go_wp2_with fail
                  exact ⟨⟨k + 1, by omega, rfl, by go_num, hq16.same hk17, hr16.same hk17, hB16.kept hk17 (fun h => h), bel16.trans (hk17.below bel16.size (fun _ _ h => h)), ⟨_, _, _, _, _, hc16.kept hk17 (fun h => h)⟩, ⟨_, _, _, _, _, hd16.kept hk17 (fun h => h)⟩⟩, by simp [intOf]; omega⟩
                · have hge4 : decide ((k : Int) < (n : Int)) = false := decide_eq_false (by omega)
                  go_wp2_with fail
                  exact ⟨⟨q + 1, by omega, rfl, by go_num, hq, hr, hB, hbel⟩, by simp [intOf]; omega⟩
            · have hge3 : decide ((q : Int) < 2) = false := decide_eq_false (by omega)
              go_wp2_with fail
              go_ret
              exact ⟨rfl, hbel⟩

theorem saved_walk (le wi : Int) (a sa ma : Option Addr) (n cap sn scap mn mcap : Nat) (R B K X Y Z K2 X2 Y2 Z2 : Nat → Int) (w : World) (hT : Ten w a n R B) (hn : n * 16 ≤ 140737488355328) (hsn : sn * 32 ≤ 140737488355328) (hmn : mn * 32 ≤ 140737488355328) (hS : Scr w sa sn K X Y Z) (hM : Scr w ma mn K2 X2 Y2 Z2) (hlib : Lib w) :
    Calls Tryd.prog 3 #[.agg #[.int .i64 le, .int .i64 wi, .slice a n cap], .slice sa sn scap, .slice ma mn mcap] w fun e w' => e = .returned (.bool true) ∧ Below w.heap.size w w' := by
  rcases Classical.em (Good le wi n R B) with g | no
  · exact saved_yes le wi a sa ma n cap sn scap mn mcap R B K X Y Z K2 X2 Y2 Z2 w hT hn hsn hmn hS hM hlib g
  · exact saved_no le wi a sa ma n cap sn scap mn mcap R B w hT hn no

end Go.Proofs.YtpfahgogjeignabDoor
