/-
  made: a cluster of the program's and one of the document's, or none of either.
-/
import Derived.Test.YtpfahgogjeignaaGreatDoorLawB
import Derived.Test.YtpfahgogjeignaaGreatDoorProH
import Derived.Test.YtpfahgogjeignaaGreatDoorRefG
set_option linter.unusedVariables false
set_option linter.unusedSimpArgs false
namespace Go.Proofs.YtpfahgogjeignaaGreatDoor
open Go.RowKit
attribute [local go_sem] fArr_get

theorem hand_ten {w : World} {g n : Nat} {R B : Nat → Int} (hb : BAt w g 47 (fArr ((n + 2) * 2) (handF n R B))) : Ten w (some ⟨g, 0, none⟩) n R B := by
  refine .inr ⟨g, 0, rfl, hb.lt, fun i hi => ?_, fun i hi => ?_⟩
  · rw [Nat.zero_add, hb.cell, fArr_get _ _ _ (by omega), hand_even _ _ _ _ hi]
  · rw [Nat.zero_add, hb.cell, fArr_get _ _ _ (by omega), hand_odd _ _ _ _ hi]

set_option maxRecDepth 100000 in
set_option maxHeartbeats 1000000 in
theorem made_bad (le wi ec : Int) (a : Option Addr) (n cap : Nat) (R B : Nat → Int) (w : World) (hT : Ten w a n R B) (hn : n * 16 ≤ 140737488355328)
    (hP : ∀ (a : Option Addr) (cap : Nat) (w : World), Ten w a n R B → Calls Tryz.prog 15 #[.int .i64 le, .int .i64 wi, .slice a n cap] w fun e w' => e = .returned (.tuple #[.pointer none, .int .i64 ec]) ∧ Same w w')
    (hR : ∀ (a : Option Addr) (cap : Nat) (w : World), Ten w a n R B → Calls Tryz.prog 17 #[.int .i64 le, .int .i64 wi, .slice a n cap] w fun e w' => e = .returned (.tuple #[.pointer none, .int .i64 ec]) ∧ Same w w') :
    Calls Tryz.prog 10 #[.agg #[.int .i64 le, .int .i64 wi, .slice a n cap]] w fun e w' => e = .returned (.tuple #[.pointer none, .bool true]) ∧ Same w w' := by
  have HP : Hid (∀ (a : Option Addr) (cap : Nat) (w : World), Ten w a n R B → Calls Tryz.prog 15 #[.int .i64 le, .int .i64 wi, .slice a n cap] w fun e w' => e = .returned (.tuple #[.pointer none, .int .i64 ec]) ∧ Same w w') := hP
  have HR : Hid (∀ (a : Option Addr) (cap : Nat) (w : World), Ten w a n R B → Calls Tryz.prog 17 #[.int .i64 le, .int .i64 wi, .slice a n cap] w fun e w' => e = .returned (.tuple #[.pointer none, .int .i64 ec]) ∧ Same w w') := hR
  have HN : Hid (n * 16 ≤ 140737488355328) := hn
  have n0 : (0 : Int) ≤ (n : Int) := by omega
  have n1 : (n : Int) < 9000000000000 := by omega
  clear hP hR hn
  go_enter Tryz.func10, Tryz.ntmps10
  go_wp2_with fail
  refine (handed_any a n cap R B _ (hT.alloc _) HN.out).mono ?_
  rintro e w2 ⟨rfl, hb2, hS2⟩
  have hs2 : BAt w2 w.heap.size 24 #[.int .i64 le, .int .i64 wi, .slice a n cap] := (BAt.made' _ _ rfl _ _).kept hS2 (fun h => h)
  have hw2 : Same w w2 := ((Kept.refl _ _).alloc _).trans hS2
  have hT2 := hT.same hw2
  simp only [World.size_alloc] at hb2 ⊢
  have ht2 : Ten w2 (some ⟨w.heap.size + 1, 0, none⟩) n R B := hand_ten hb2
  have hc2 := hs2.cell
  clear hS2
  go_wp2_with fail
  refine (HP.out _ _ _ ht2).mono ?_
  rintro e w3 ⟨rfl, hS3⟩
  have hs3 := hs2.kept hS3 (fun h => h)
  have hb3 := hb2.kept hS3 (fun h => h)
  have hT3 := hT2.same hS3
  have hc3 := hs3.cell
  have hw3 := hw2.trans hS3
  clear hs2 hb2 hT2 hc2 ht2 hw2 hS3
  go_wp2_with fail
  refine (still_any a (w.heap.size + 1) n cap R B _ hT3 hb3 HN.out).mono ?_
  rintro e w4 ⟨rfl, q, rfl⟩
  go_wp2_with fail
  refine (HR.out _ _ _ (by exact hT3)).mono ?_
  rintro e w5 ⟨rfl, hS5⟩
  have hb5 := (hb3.drewN q).kept hS5 (fun h => h)
  have hw5 := (hw3.drewN q).trans hS5
  clear hs3 hb3 hT3 hc3 hw3 hS5
  go_wp2_with fail
  go_loopw [10] (fun x wr => ∃ (k : Nat) (f : Nat → Value), k ≤ n ∧ x = .int .i64 k ∧ BAt wr (w.heap.size + 1) 47 (fArr ((n + 2) * 2) f) ∧ Same w wr) (fun x _ => n - (intOf x).toNat)
  case atStart => exact ⟨0, _, by omega, rfl, hb5, hw5⟩
  case round =>
    obtain ⟨k, f, hk, rfl, hbr, hwr⟩ := hrel
    by_cases hlt : k < n
    · have hki : (k : Int) < n := by omega
      have hC := hbr.cell
      have hF := hbr.free
      have f0 := fArr_get ((n + 2) * 2) f (k * 2) (by omega)
      have f1 := fArr_get ((n + 2) * 2) f (k * 2 + 1) (by omega)
      clear hb5 hw5
      go_wp2
      have hb6 := (hbr.set (k * 2) (.int .i64 (-77))).set (k * 2 + 1) (.int .i64 (-77))
      rw [fArr_set, fArr_set] at hb6
      exact ⟨⟨k + 1, _, by omega, by go_num, hb6, Kept.setCell (Kept.setCell hwr _ (.inr (by simp)) _) _ (.inr (by simp)) _⟩, by simp [intOf]; omega⟩
    · go_wp2
      go_ret2
      exact ⟨rfl, hwr⟩

theorem made_no (le wi : Int) (a : Option Addr) (n cap : Nat) (R B : Nat → Int) (w : World) (hT : Ten w a n R B) (hn : n * 16 ≤ 140737488355328) (no : ¬ Good le wi n R B) :
    Calls Tryz.prog 10 #[.agg #[.int .i64 le, .int .i64 wi, .slice a n cap]] w fun e w' => e = .returned (.tuple #[.pointer none, .bool true]) ∧ Same w w' := by
  by_cases hl : le < 1 ∨ 1000 < le
  · exact made_bad le wi 1 a n cap R B w hT hn (fun a cap w _ => new_lease le wi a n cap w hl) (fun a cap w _ => rnew_lease le wi a n cap w hl)
  · have l0 : 1 ≤ le := by omega
    have l1 : le ≤ 1000 := by omega
    rcases Classical.em (TensOk n R B) with ht | ht
    · have hw : ¬ WinOk wi n B := fun hw => no ⟨l0, l1, ht, hw⟩
      exact made_bad le wi 3 a n cap R B w hT hn (fun a cap w h => new_window le wi a n cap R B w h l0 l1 ht hw) (fun a cap w h => rnew_window le wi a n cap R B w h l0 l1 ht hw)
    · exact made_bad le wi 2 a n cap R B w hT hn (fun a cap w h => new_tenants le wi a n cap R B w h l0 l1 ht) (fun a cap w h => rnew_tenants le wi a n cap R B w h l0 l1 ht)

/-- A pair: a cluster of the program's, one of the document's; nothing is shared. -/
structure Pair (w : World) (p b : Nat) (A : RA) (s : PC) (r : RS) : Prop where
  hp : BAt w p 49 #[.pointer (some ⟨b, 0, none⟩), .pointer (some ⟨A.c, 0, none⟩)]
  hc : PAt w b s
  hr : RAt w A r
  pb : p ≠ b
  pr : ¬ A.in r.n p
  br : ¬ A.in r.n b

set_option maxRecDepth 100000 in
set_option maxHeartbeats 2000000 in
theorem made_yes (le wi : Int) (a : Option Addr) (n cap : Nat) (R B : Nat → Int) (w : World) (hT : Ten w a n R B) (hn : n * 16 ≤ 140737488355328) (ok : Good le wi n R B) :
    Calls Tryz.prog 10 #[.agg #[.int .i64 le, .int .i64 wi, .slice a n cap]] w fun e w' => ∃ (p b : Nat) (A : RA), e = .returned (.tuple #[.pointer (some ⟨p, 0, none⟩), .bool true]) ∧ Pair w' p b A (PC.fresh le wi n R B n 2 (-1)) (RS.fresh le wi n R B) ∧ Same w w' ∧ w.heap.size ≤ p ∧ w.heap.size ≤ b ∧ ∀ g, A.in n g → w.heap.size ≤ g := by
  have OK : Hid (Good le wi n R B) := ok
  have HN : Hid (n * 16 ≤ 140737488355328) := hn
  have n0 : (0 : Int) ≤ (n : Int) := by omega
  have n1 : (n : Int) < 9000000000000 := by omega
  clear ok hn
  go_enter Tryz.func10, Tryz.ntmps10
  go_wp2_with fail
  refine (handed_any a n cap R B _ (hT.alloc _) HN.out).mono ?_
  rintro e w2 ⟨rfl, hb2, hS2⟩
  have hs2 : BAt w2 w.heap.size 24 #[.int .i64 le, .int .i64 wi, .slice a n cap] := (BAt.made' _ _ rfl _ _).kept hS2 (fun h => h)
  have hw2 : Same w w2 := ((Kept.refl _ _).alloc _).trans hS2
  have hT2 := hT.same hw2
  simp only [World.size_alloc] at hb2 ⊢
  have ht2 : Ten w2 (some ⟨w.heap.size + 1, 0, none⟩) n R B := hand_ten hb2
  have hc2 := hs2.cell
  clear hS2
  go_wp2_with fail
  refine (new_yes le wi _ n _ R B _ ht2 OK.out.l0 OK.out.l1 OK.out.ten OK.out.win).mono ?_
  rintro e w3 ⟨b, rfl, hbsz, hP3, hS3⟩
  have hg2 := hb2.lt
  have hs3 := hs2.kept hS3 (fun h => h)
  have hb3 := hb2.kept hS3 (fun h => h)
  have hT3 := hT2.same hS3
  have hc3 := hs3.cell
  have hw3 := hw2.trans hS3
  have hbne : w.heap.size + 1 < b := by omega
  clear hs2 hb2 hT2 hc2 ht2 hw2 hS3 hg2 hbsz
  go_wp2_with fail
  refine (still_any a (w.heap.size + 1) n cap R B _ hT3 hb3 HN.out).mono ?_
  rintro e w4 ⟨rfl, q, rfl⟩
  go_wp2_with fail
  refine (rnew_yes le wi _ n _ R B _ (by exact hT3) OK.out.l0 OK.out.l1 OK.out.ten OK.out.win).mono ?_
  rintro e w5 ⟨A, rfl, hA5, hS5, hin⟩
  have hb5 := (hb3.drewN q).kept hS5 (fun h => h)
  have hw5 := (hw3.drewN q).trans hS5
  have hP5 := (hP3.drewN q).same hS5
  have hbl := hP3.lt
  have hgl := hb3.lt
  have hin' : ∀ g, A.in n g → w3.heap.size ≤ g := hin
  have HIN : Hid (∀ g, A.in n g → w3.heap.size ≤ g) := hin'
  have hsz3 := hw3.size
  clear hs3 hb3 hT3 hc3 hw3 hS5 hin hin' hP3
  go_wp2_with fail
  go_loopw [10] (fun x wr => ∃ (k : Nat) (f : Nat → Value), k ≤ n ∧ x = .int .i64 k ∧ BAt wr (w.heap.size + 1) 47 (fArr ((n + 2) * 2) f) ∧ Same w wr ∧ Kept (fun g => g = w.heap.size + 1) w5 wr) (fun x _ => n - (intOf x).toNat)
  case atStart => exact ⟨0, _, by omega, rfl, hb5, hw5, Kept.refl _ _⟩
  case round =>
    obtain ⟨k, f, hk, rfl, hbr, hwr, hkr⟩ := hrel
    by_cases hlt : k < n
    · have hki : (k : Int) < n := by omega
      have hC := hbr.cell
      have hF := hbr.free
      have f0 := fArr_get ((n + 2) * 2) f (k * 2) (by omega)
      have f1 := fArr_get ((n + 2) * 2) f (k * 2 + 1) (by omega)
      clear hb5 hw5
      go_wp2
      have hb6 := (hbr.set (k * 2) (.int .i64 (-77))).set (k * 2 + 1) (.int .i64 (-77))
      rw [fArr_set, fArr_set] at hb6
      exact ⟨⟨k + 1, _, by omega, by go_num, hb6, Kept.setCell (Kept.setCell hwr _ (.inr (by simp)) _) _ (.inr (by simp)) _, Wrote.set (Wrote.set hkr _ _) _ _⟩, by simp [intOf]; omega⟩
    · have hPr : PAt wr b _ := hP5.kept hkr (by omega)
      have hAr : RAt wr A _ := hA5.kept hkr (fun g hg e => by have := HIN.out g hg; omega)
      clear hP5 hA5
      have hAl := hAr.in_lt
      have HAL : Hid (∀ g, A.in (RS.fresh le wi n R B).n g → g < wr.heap.size) := hAl
      clear hAl
      have hbr2 := hPr.lt
      have hszr := hwr.size
      go_wp2
      go_ret2
      refine ⟨wr.heap.size, b, A, rfl, ⟨BAt.made' _ _ rfl _ _, ?_, ?_, by omega, fun h => ?_, fun h => ?_⟩, hwr.alloc _, by omega, by omega, fun g hg => ?_⟩
      · exact hPr.same ((Kept.refl _ _).alloc _)
      · exact hAr.same ((Kept.refl _ _).alloc _)
      · have := HAL.out _ h; omega
      · have := HIN.out _ h; omega
      · have := HIN.out _ hg; omega

end Go.Proofs.YtpfahgogjeignaaGreatDoor
