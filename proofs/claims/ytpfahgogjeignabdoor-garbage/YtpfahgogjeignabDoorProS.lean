/-
  A cluster is read; what is written is read again.
-/
import Derived.Test.YtpfahgogjeignabDoorWri
import Derived.Deep.CutRange
set_option linter.unusedVariables false
set_option linter.unusedSimpArgs false
namespace Go.Proofs.YtpfahgogjeignabDoor
open Go.RowKit
attribute [local go_sem ↓] Go.wp_at_zero Go.wp_at_succ
attribute [local go_sem] pcg0 pcg1 pcg2 pcg3 pcg4 pcg5 pcg6 pcg7 pcg8 pcg9 pcg10 pcg11 pcg12 pcg13 pcg14 pcg15 pcg16 pcg17 pcg18 pcg19 pcg20 pcg21 pcg22 pcg23 pcg24 pcg25 pcg26 pcg27 pcg28 pcg29 pcg30 pcg31 pcg32 pcg33 pcg34 pcg35 pcg36 pcg37 pcg38 pcg39 pcg40 pcg41 pcg42
attribute [local go_sem] pcgRateN pcgBurstN pcgLinkN pcgUpN pcgEpochN pcgTilN pcgAloneN pcgLevN pcgWinN

/-- A cluster that is being read. -/
structure LA (w0 w : World) (b g : Nat) (T : ByteArray) (x : LS) : Prop where
  g0 : 0 < g
  b0 : 0 < b
  bg : b ≠ g
  small : T.size ≤ 140737488355328
  lib : Lib w
  pat : PAt w b x.1
  rd : RdAt w g T x.2
  pos : x.2.pos ≤ T.size
  kept : Kept (fun k => k = b ∨ k = g) w0 w
theorem LA.here {w0 w w1 : World} {b g : Nat} {T : ByteArray} {x : LS} (h : LA w0 w b g T x) (e1 : w1.heap = w.heap) (e2 : w1.os = w.os) (e3 : w1.tape = w.tape) (e4 : w1.output = w.output) : LA w0 w1 b g T x :=
  ⟨h.g0, h.b0, h.bg, h.small, h.lib.of_block (by rw [e1]), by have := h.pat; unfold PAt at *; rw [e1]; exact this, by have := h.rd; unfold RdAt BAt at *; rw [e1]; exact this, h.pos, by
    have k := h.kept
    exact ⟨e2.trans k.os, e3.trans k.tape, e4.trans k.output, by rw [e1]; exact k.size, by rw [e1]; exact k.block⟩⟩
theorem LA.num {w0 w : World} {b g : Nat} {T : ByteArray} {x : LS} (h : LA w0 w b g T x) {least most : Int} (m0 : 0 ≤ most) (m1 : most ≤ 2000000000000) :
    Calls Tryd.prog 19 #[.pointer (some ⟨g, 0, none⟩), .int .i64 least, .int .i64 most] w fun e w' => e = .returned (.int .i64 (numR T.data.toList least most x.2).1) ∧ LA w0 w' b g T (x.1, (numR T.data.toList least most x.2).2) := by
  refine (number_any g T h.small x.2 h.pos least most m0 m1 w h.lib h.g0 h.rd).mono ?_
  rintro e w' ⟨rfl, h1, k⟩
  refine ⟨rfl, h.g0, h.b0, h.bg, h.small, h.lib.hidden h.g0 k, h.pat.kept k h.bg, h1, ?_, h.kept.trans (k.mono (fun _ e => .inr e))⟩
  have := numR_pos T.data.toList least most x.2 (by rw [← Go.Lib.size_eq]; exact h.pos)
  rw [← Go.Lib.size_eq] at this
  exact this
theorem LA.flag {w0 w : World} {b g : Nat} {T : ByteArray} {x : LS} (h : LA w0 w b g T x) :
    Calls Tryd.prog 42 #[.pointer (some ⟨g, 0, none⟩)] w fun e w' => e = .returned (.bool (flagB (numR T.data.toList 0 1 x.2).1)) ∧ LA w0 w' b g T (x.1, (numR T.data.toList 0 1 x.2).2) := by
  refine (flag_any g T h.small x.2 h.pos w h.lib h.g0 h.rd).mono ?_
  rintro e w' ⟨rfl, h1, k⟩
  refine ⟨rfl, h.g0, h.b0, h.bg, h.small, h.lib.hidden h.g0 k, h.pat.kept k h.bg, h1, ?_, h.kept.trans (k.mono (fun _ e => .inr e))⟩
  have := numR_pos T.data.toList 0 1 x.2 (by rw [← Go.Lib.size_eq]; exact h.pos)
  rw [← Go.Lib.size_eq] at this
  exact this
theorem LA.set {w0 w : World} {b g : Nat} {T : ByteArray} {x : LS} (h : LA w0 w b g T x) {s' : PC} (o : Nat) (v : Value) (e : (pcArr x.1).setIfInBounds o v = pcArr s') : LA w0 (w.setCell ⟨b, o, none⟩ v) b g T (s', x.2) :=
  ⟨h.g0, h.b0, h.bg, h.small, h.lib.set _ h.b0 v, PAt.set h.pat o v s' e, BAt.far h.rd ⟨b, o, none⟩ (fun q => h.bg q.symm) v, h.pos, Kept.setCell h.kept _ (.inl (.inl rfl)) v⟩
theorem LA.as {w0 w : World} {b g : Nat} {T : ByteArray} {x y : LS} (h : LA w0 w b g T x) (e : x = y) : LA w0 w b g T y := by rw [← e]; exact h

theorem setN_ten (s : PC) (k : Nat) (h : k < 4) (r v : Int) : ((pcArr s).setIfInBounds (3 + k * 2) (.int .i64 r)) = pcArr { s with rate := upd s.rate k r } ∧ ((pcArr { s with rate := upd s.rate k r }).setIfInBounds (3 + k * 2 + 1) (.int .i64 v)) = pcArr (s.setTen k r v) := by
  rcases (by omega : k = 0 ∨ k = 1 ∨ k = 2 ∨ k = 3) with rfl | rfl | rfl | rfl <;> exact ⟨rfl, rfl⟩

set_option maxRecDepth 100000 in
set_option maxHeartbeats 2000000 in
theorem rterms_any (b g : Nat) (T : ByteArray) (x : LS) (w0 w : World) (h : LA w0 w b g T x) :
    Calls Tryd.prog 18 #[.pointer (some ⟨b, 0, none⟩), .pointer (some ⟨g, 0, none⟩)] w fun e w' => e = .returned (.tuple #[]) ∧ LA w0 w' b g T (termsR T.data.toList x) := by
  have H0 : Hid (LA w0 w b g T x) := h
  have HT : Hid (termsR T.data.toList x = tens T.data.toList (leastB (headR T.data.toList x).1.window) (headR T.data.toList x).1.count.toNat (headR T.data.toList x)) := rfl
  have bd1 := numR_bd T.data.toList 0 1000000 (numR T.data.toList 1 1000 x.2).2 (by omega)
  have bd2 := numR_bd T.data.toList 1 4 (numR T.data.toList 0 1000000 (numR T.data.toList 1 1000 x.2).2).2 (by omega)
  clear h
  rw [HT.out]
  have HH : Hid (headR T.data.toList x = (x.1.setTerms (numR T.data.toList 1 1000 x.2).1 (numR T.data.toList 0 1000000 (numR T.data.toList 1 1000 x.2).2).1 (numR T.data.toList 1 4 (numR T.data.toList 0 1000000 (numR T.data.toList 1 1000 x.2).2).2).1, (numR T.data.toList 1 4 (numR T.data.toList 0 1000000 (numR T.data.toList 1 1000 x.2).2).2).2)) := rfl
  generalize headR T.data.toList x = hd at *
  have C1 : Hid (∀ W, LA w0 W b g T x → Calls Tryd.prog 19 #[.pointer (some ⟨g, 0, none⟩), .int .i64 1, .int .i64 1000] W fun e w' => e = .returned (.int .i64 (numR T.data.toList 1 1000 x.2).1) ∧ LA w0 w' b g T (x.1, (numR T.data.toList 1 1000 x.2).2)) := fun W hW => hW.num (by omega) (by omega)
  have C2 : Hid (∀ W s, LA w0 W b g T (s, (numR T.data.toList 1 1000 x.2).2) → Calls Tryd.prog 19 #[.pointer (some ⟨g, 0, none⟩), .int .i64 0, .int .i64 1000000] W fun e w' => e = .returned (.int .i64 (numR T.data.toList 0 1000000 (numR T.data.toList 1 1000 x.2).2).1) ∧ LA w0 w' b g T (s, (numR T.data.toList 0 1000000 (numR T.data.toList 1 1000 x.2).2).2)) := fun W s hW => hW.num (by omega) (by omega)
  have C3 : Hid (∀ W s, LA w0 W b g T (s, (numR T.data.toList 0 1000000 (numR T.data.toList 1 1000 x.2).2).2) → Calls Tryd.prog 19 #[.pointer (some ⟨g, 0, none⟩), .int .i64 1, .int .i64 4] W fun e w' => e = .returned (.int .i64 (numR T.data.toList 1 4 (numR T.data.toList 0 1000000 (numR T.data.toList 1 1000 x.2).2).2).1) ∧ LA w0 w' b g T (s, (numR T.data.toList 1 4 (numR T.data.toList 0 1000000 (numR T.data.toList 1 1000 x.2).2).2).2)) := fun W s hW => hW.num (by omega) (by omega)
  generalize numR T.data.toList 1 4 (numR T.data.toList 0 1000000 (numR T.data.toList 1 1000 x.2).2).2 = y3 at *
  generalize numR T.data.toList 0 1000000 (numR T.data.toList 1 1000 x.2).2 = y2 at *
  generalize numR T.data.toList 1 1000 x.2 = y1 at *
  obtain ⟨v1, r1⟩ := y1
  obtain ⟨v2, r2⟩ := y2
  obtain ⟨v3, r3⟩ := y3
  dsimp only at *
  obtain ⟨a0, a1⟩ := bd1
  obtain ⟨a2, a3⟩ := bd2
  obtain ⟨n, hn⟩ : ∃ n : Nat, v3 = (n : Int) := ⟨v3.toNat, by omega⟩
  subst hn
  have n4 : n ≤ 4 := by omega
  go_enter Tryd.func18, Tryd.ntmps18
  go_wp2_with fail
  refine (C1.out _ H0.out).mono ?_
  rintro e w1 ⟨rfl, h1⟩
  have hC := h1.pat.cell
  have hF := h1.pat.free
  have H1 : Hid (LA w0 (w1.setCell ⟨b, 0, none⟩ (.int .i64 v1)) b g T ({ x.1 with lease := v1 }, r1)) := h1.set 0 _ rfl
  clear h1 C1 H0
  go_wp2_with fail
  clear hC hF
  generalize w1.setCell ⟨b, 0, none⟩ (.int .i64 v1) = W1 at *
  refine (C2.out _ _ H1.out).mono ?_
  rintro e w2 ⟨rfl, h2⟩
  have hC := h2.pat.cell
  have hF := h2.pat.free
  have H2 : Hid (LA w0 (w2.setCell ⟨b, 1, none⟩ (.int .i64 v2)) b g T ({ x.1 with lease := v1, window := v2 }, r2)) := h2.set 1 _ rfl
  clear h2 C2 H1
  go_wp2_with fail
  clear hC hF
  generalize w2.setCell ⟨b, 1, none⟩ (.int .i64 v2) = W2 at *
  refine (C3.out _ _ H2.out).mono ?_
  rintro e w3 ⟨rfl, h3⟩
  have hC := h3.pat.cell
  have hF := h3.pat.free
  have H3 : Hid (LA w0 (w3.setCell ⟨b, 2, none⟩ (.int .i64 (n : Int))) b g T hd) := (h3.set (s' := x.1.setTerms v1 v2 n) 2 _ rfl).as HH.out.symm
  have hw : (w3.setCell ⟨b, 2, none⟩ (.int .i64 (n : Int))).cell? ⟨b, 1, none⟩ = some (.int .i64 v2) := by rw [H3.out.pat.cell, HH.out]; rfl
  have ec : Hid (hd.1.count = (n : Int)) := by rw [HH.out]; rfl
  have ew : Hid (hd.1.window = v2) := by rw [HH.out]; rfl
  clear h3 C3 H2 HH HT
  by_cases hv : 1 < v2
  · have EL : Hid (leastB hd.1.window = v2) := by rw [ew.out]; exact if_pos hv
    clear ew
    go_wp2_with fail
    clear hC hF hw
    generalize w3.setCell ⟨b, 2, none⟩ (.int .i64 (n : Int)) = W3 at *
    go_loopw [5] (fun x wr => ∃ k : Nat, k ≤ n ∧ x = .int .i64 k ∧ LA w0 wr b g T (tens T.data.toList (leastB hd.1.window) k hd) ∧ (tens T.data.toList (leastB hd.1.window) k hd).1.count = (n : Int)) (fun x _ => n - (intOf x).toNat)
    case atStart => exact ⟨0, by omega, rfl, H3.out, ec.out⟩
    case round =>
      obtain ⟨k, hk, rfl, hr, hct⟩ := hrel
      clear H3
      have hcount : wr.cell? ⟨b, 2, none⟩ = some (.int .i64 (n : Int)) := by rw [hr.pat.cell, pcg2, hct]
      have HCT : Hid ((tens T.data.toList (leastB hd.1.window) k hd).1.count = (n : Int)) := hct
      have HR : Hid (LA w0 wr b g T (tens T.data.toList (leastB hd.1.window) k hd)) := hr
      clear hct
      by_cases hlt : k < n
      · have hki : (k : Int) < n := by omega
        have k4 : k < 4 := by omega
        have HS : Hid (tens T.data.toList (leastB hd.1.window) (k + 1) hd = tenStep T.data.toList (leastB hd.1.window) k (tens T.data.toList (leastB hd.1.window) k hd)) := rfl
        obtain ⟨x2, HXX⟩ : ∃ x2, Hid (x2 = tens T.data.toList (leastB hd.1.window) (k + 1) hd) := ⟨_, rfl⟩
        rw [← HXX.out] at HS
        generalize tens T.data.toList (leastB hd.1.window) k hd = x1 at *
        have HX2 : Hid (x2 = (x1.1.setTen k (numR T.data.toList 0 1000 x1.2).1 (numR T.data.toList v2 1000000 (numR T.data.toList 0 1000 x1.2).2).1, (numR T.data.toList v2 1000000 (numR T.data.toList 0 1000 x1.2).2).2)) := by
          rw [HS.out, ← EL.out]
          rfl
        have D1 : Hid (∀ W, LA w0 W b g T x1 → Calls Tryd.prog 19 #[.pointer (some ⟨g, 0, none⟩), .int .i64 0, .int .i64 1000] W fun e w' => e = .returned (.int .i64 (numR T.data.toList 0 1000 x1.2).1) ∧ LA w0 w' b g T (x1.1, (numR T.data.toList 0 1000 x1.2).2)) := fun W hW => hW.num (by omega) (by omega)
        have D2 : Hid (∀ W s, LA w0 W b g T (s, (numR T.data.toList 0 1000 x1.2).2) → Calls Tryd.prog 19 #[.pointer (some ⟨g, 0, none⟩), .int .i64 v2, .int .i64 1000000] W fun e w' => e = .returned (.int .i64 (numR T.data.toList v2 1000000 (numR T.data.toList 0 1000 x1.2).2).1) ∧ LA w0 w' b g T (s, (numR T.data.toList v2 1000000 (numR T.data.toList 0 1000 x1.2).2).2)) := fun W s hW => hW.num (by omega) (by omega)
        generalize numR T.data.toList v2 1000000 (numR T.data.toList 0 1000 x1.2).2 = y2 at *
        generalize numR T.data.toList 0 1000 x1.2 = y1 at *
        obtain ⟨t1, q1⟩ := y1
        obtain ⟨t2, q2⟩ := y2
        dsimp only at *
        have cr : wr.cell? ⟨b, 3 + k * 2, none⟩ = some (.int .i64 (x1.1.rate k)) := by rw [hr.pat.cell, pcgRateN _ k k4]
        have fr := hr.pat.free
        clear hr HS
        go_wp2_with fail
        go_region_with (go_at_call 19; refine (D1.out _ (LA.here HR.out (by rfl) (by rfl) (by rfl) (by rfl))).mono ?_; rintro e w4 ⟨rfl, h4⟩; have c4 : w4.cell? ⟨b, 3 + k * 2, none⟩ = some (.int .i64 (x1.1.rate k)) := (by rw [h4.pat.cell, pcgRateN _ k k4]); have f4 := h4.pat.free)
        have H4 : Hid (LA w0 (w4.setCell ⟨b, 3 + k * 2, none⟩ (.int .i64 t1)) b g T ({ x1.1 with rate := upd x1.1.rate k t1 }, q1)) := h4.set _ _ (setN_ten x1.1 k k4 t1 t2).1
        have f5 := H4.out.pat.free
        clear h4 HR D1 cr c4 f4 fr hcount
        generalize w4.setCell ⟨b, 3 + k * 2, none⟩ (.int .i64 t1) = W4 at *
        go_wp2_with fail
        go_region_with (go_at_call 19; refine (D2.out _ _ (LA.here H4.out (by rfl) (by rfl) (by rfl) (by rfl))).mono ?_; rintro e w6 ⟨rfl, h6⟩; have c6 : w6.cell? ⟨b, 3 + k * 2 + 1, none⟩ = some (.int .i64 (x1.1.burst k)) := (by rw [h6.pat.cell, pcgBurstN _ k k4]); have f6 := h6.pat.free)
        have H6 : Hid (LA w0 (w6.setCell ⟨b, 3 + k * 2 + 1, none⟩ (.int .i64 t2)) b g T x2) := (h6.set (s' := x1.1.setTen k t1 t2) _ _ (setN_ten x1.1 k k4 t1 t2).2).as HX2.out.symm
        have HC6 : Hid (x2.1.count = (n : Int)) := by rw [HX2.out]; exact HCT.out
        clear h6 H4 D2 c6 f6 f5
        generalize w6.setCell ⟨b, 3 + k * 2 + 1, none⟩ (.int .i64 t2) = W6 at *
        go_wp2_with fail
        refine ⟨⟨k + 1, by omega, by go_num, H6.out.as HXX.out, ?_⟩, by simp [intOf]; omega⟩
        rw [← HXX.out]
        exact HC6.out
      · have hke : k = n := by omega
        subst hke
        clear hr
        go_wp2_with fail
        go_end0
        refine ⟨rfl, HR.out.as ?_⟩
        rw [ec.out, Int.toNat_natCast]
  · have EL : Hid (leastB hd.1.window = 1) := by rw [ew.out]; exact if_neg hv
    clear ew
    go_wp2_with fail
    clear hC hF hw
    generalize w3.setCell ⟨b, 2, none⟩ (.int .i64 (n : Int)) = W3 at *
    go_loopw [5] (fun x wr => ∃ k : Nat, k ≤ n ∧ x = .int .i64 k ∧ LA w0 wr b g T (tens T.data.toList (leastB hd.1.window) k hd) ∧ (tens T.data.toList (leastB hd.1.window) k hd).1.count = (n : Int)) (fun x _ => n - (intOf x).toNat)
    case atStart => exact ⟨0, by omega, rfl, H3.out, ec.out⟩
    case round =>
      obtain ⟨k, hk, rfl, hr, hct⟩ := hrel
      clear H3
      have hcount : wr.cell? ⟨b, 2, none⟩ = some (.int .i64 (n : Int)) := by rw [hr.pat.cell, pcg2, hct]
      have HCT : Hid ((tens T.data.toList (leastB hd.1.window) k hd).1.count = (n : Int)) := hct
      have HR : Hid (LA w0 wr b g T (tens T.data.toList (leastB hd.1.window) k hd)) := hr
      clear hct
      by_cases hlt : k < n
      · have hki : (k : Int) < n := by omega
        have k4 : k < 4 := by omega
        have HS : Hid (tens T.data.toList (leastB hd.1.window) (k + 1) hd = tenStep T.data.toList (leastB hd.1.window) k (tens T.data.toList (leastB hd.1.window) k hd)) := rfl
        obtain ⟨x2, HXX⟩ : ∃ x2, Hid (x2 = tens T.data.toList (leastB hd.1.window) (k + 1) hd) := ⟨_, rfl⟩
        rw [← HXX.out] at HS
        generalize tens T.data.toList (leastB hd.1.window) k hd = x1 at *
        have HX2 : Hid (x2 = (x1.1.setTen k (numR T.data.toList 0 1000 x1.2).1 (numR T.data.toList 1 1000000 (numR T.data.toList 0 1000 x1.2).2).1, (numR T.data.toList 1 1000000 (numR T.data.toList 0 1000 x1.2).2).2)) := by
          rw [HS.out, ← EL.out]
          rfl
        have D1 : Hid (∀ W, LA w0 W b g T x1 → Calls Tryd.prog 19 #[.pointer (some ⟨g, 0, none⟩), .int .i64 0, .int .i64 1000] W fun e w' => e = .returned (.int .i64 (numR T.data.toList 0 1000 x1.2).1) ∧ LA w0 w' b g T (x1.1, (numR T.data.toList 0 1000 x1.2).2)) := fun W hW => hW.num (by omega) (by omega)
        have D2 : Hid (∀ W s, LA w0 W b g T (s, (numR T.data.toList 0 1000 x1.2).2) → Calls Tryd.prog 19 #[.pointer (some ⟨g, 0, none⟩), .int .i64 1, .int .i64 1000000] W fun e w' => e = .returned (.int .i64 (numR T.data.toList 1 1000000 (numR T.data.toList 0 1000 x1.2).2).1) ∧ LA w0 w' b g T (s, (numR T.data.toList 1 1000000 (numR T.data.toList 0 1000 x1.2).2).2)) := fun W s hW => hW.num (by omega) (by omega)
        generalize numR T.data.toList 1 1000000 (numR T.data.toList 0 1000 x1.2).2 = y2 at *
        generalize numR T.data.toList 0 1000 x1.2 = y1 at *
        obtain ⟨t1, q1⟩ := y1
        obtain ⟨t2, q2⟩ := y2
        dsimp only at *
        have cr : wr.cell? ⟨b, 3 + k * 2, none⟩ = some (.int .i64 (x1.1.rate k)) := by rw [hr.pat.cell, pcgRateN _ k k4]
        have fr := hr.pat.free
        clear hr HS
        go_wp2_with fail
        go_region_with (go_at_call 19; refine (D1.out _ (LA.here HR.out (by rfl) (by rfl) (by rfl) (by rfl))).mono ?_; rintro e w4 ⟨rfl, h4⟩; have c4 : w4.cell? ⟨b, 3 + k * 2, none⟩ = some (.int .i64 (x1.1.rate k)) := (by rw [h4.pat.cell, pcgRateN _ k k4]); have f4 := h4.pat.free)
        have H4 : Hid (LA w0 (w4.setCell ⟨b, 3 + k * 2, none⟩ (.int .i64 t1)) b g T ({ x1.1 with rate := upd x1.1.rate k t1 }, q1)) := h4.set _ _ (setN_ten x1.1 k k4 t1 t2).1
        have f5 := H4.out.pat.free
        clear h4 HR D1 cr c4 f4 fr hcount
        generalize w4.setCell ⟨b, 3 + k * 2, none⟩ (.int .i64 t1) = W4 at *
        go_wp2_with fail
        go_region_with (go_at_call 19; refine (D2.out _ _ (LA.here H4.out (by rfl) (by rfl) (by rfl) (by rfl))).mono ?_; rintro e w6 ⟨rfl, h6⟩; have c6 : w6.cell? ⟨b, 3 + k * 2 + 1, none⟩ = some (.int .i64 (x1.1.burst k)) := (by rw [h6.pat.cell, pcgBurstN _ k k4]); have f6 := h6.pat.free)
        have H6 : Hid (LA w0 (w6.setCell ⟨b, 3 + k * 2 + 1, none⟩ (.int .i64 t2)) b g T x2) := (h6.set (s' := x1.1.setTen k t1 t2) _ _ (setN_ten x1.1 k k4 t1 t2).2).as HX2.out.symm
        have HC6 : Hid (x2.1.count = (n : Int)) := by rw [HX2.out]; exact HCT.out
        clear h6 H4 D2 c6 f6 f5
        generalize w6.setCell ⟨b, 3 + k * 2 + 1, none⟩ (.int .i64 t2) = W6 at *
        go_wp2_with fail
        refine ⟨⟨k + 1, by omega, by go_num, H6.out.as HXX.out, ?_⟩, by simp [intOf]; omega⟩
        rw [← HXX.out]
        exact HC6.out
      · have hke : k = n := by omega
        subst hke
        clear hr
        go_wp2_with fail
        go_end0
        refine ⟨rfl, HR.out.as ?_⟩
        rw [ec.out, Int.toNat_natCast]

end Go.Proofs.YtpfahgogjeignabDoor

namespace Go.Proofs.YtpfahgogjeignabDoor
open Go.RowKit
attribute [local go_sem ↓] Go.wp_at_zero Go.wp_at_succ
attribute [local go_sem] pcg0 pcg1 pcg2 pcg3 pcg4 pcg5 pcg6 pcg7 pcg8 pcg9 pcg10 pcg11 pcg12 pcg13 pcg14 pcg15 pcg16 pcg17 pcg18 pcg19 pcg20 pcg21 pcg22 pcg23 pcg24 pcg25 pcg26 pcg27 pcg28 pcg29 pcg30 pcg31 pcg32 pcg33 pcg34 pcg35 pcg36 pcg37 pcg38 pcg39 pcg40 pcg41 pcg42
attribute [local go_sem] pcgRateN pcgBurstN pcgLinkN pcgUpN pcgEpochN pcgTilN pcgAloneN pcgLevN pcgWinN


set_option maxRecDepth 100000 in
set_option maxHeartbeats 2000000 in
theorem rwit_any (b g : Nat) (T : ByteArray) (x : LS) (l0 : 1 ≤ x.1.lease) (l1 : x.1.lease ≤ 1000) (n0 : 0 ≤ x.1.now) (n1 : x.1.now ≤ 1000000000000) (w0 w : World) (h : LA w0 w b g T x) :
    Calls Tryd.prog 20 #[.pointer (some ⟨b, 0, none⟩), .pointer (some ⟨g, 0, none⟩)] w fun e w' => e = .returned (.tuple #[]) ∧ LA w0 w' b g T (witR T.data.toList x) := by
  have H0 : Hid (LA w0 w b g T x) := h
  have bd0 := numR_bd T.data.toList 0 2 x.2 (by omega)
  have C0 : Hid (∀ W, LA w0 W b g T x → Calls Tryd.prog 19 #[.pointer (some ⟨g, 0, none⟩), .int .i64 0, .int .i64 2] W fun e w' => e = .returned (.int .i64 (numR T.data.toList 0 2 x.2).1) ∧ LA w0 w' b g T (x.1, (numR T.data.toList 0 2 x.2).2)) := fun W hW => hW.num (by omega) (by omega)
  unfold witR
  generalize numR T.data.toList 0 2 x.2 = y0 at *
  obtain ⟨v0, r0⟩ := y0
  obtain ⟨a0, a1⟩ := bd0
  dsimp only at *
  clear h
  by_cases hv : v0 = 0
  · subst hv
    rw [if_pos rfl]
    clear a0 a1 l0 l1 n0 n1
    go_enter Tryd.func20, Tryd.ntmps20
    go_wp2_with fail
    refine (C0.out _ H0.out).mono ?_
    rintro e w1 ⟨rfl, h1⟩
    have hC := h1.pat.cell
    have hF := h1.pat.free
    have H1 : Hid (LA w0 (w1.setCell ⟨b, 39, none⟩ (.int .i64 (-1))) b g T (x.1.setWit (-1) x.1.wtil x.1.wepoch x.1.solo, r0)) := h1.set 39 _ rfl
    clear h1 C0 H0
    go_wp2_with fail
    try simp only [Exit.inBlock, Exit.then]
    refine bodyPost_ret (results_none rfl _ _ _) rfl ?_
    exact ⟨rfl, H1.out⟩
  · rw [if_neg hv]
    have hwr : IntKind.i64.wrap (x.1.now + x.1.lease) = x.1.now + x.1.lease := by
      unfold IntKind.wrap
      rw [show IntKind.i64.bits = 64 from rfl, show IntKind.i64.signed = true from rfl]
      simp
      omega
    have C1 : Hid (∀ W s, LA w0 W b g T (s, r0) → Calls Tryd.prog 19 #[.pointer (some ⟨g, 0, none⟩), .int .i64 x.1.lease, .int .i64 (IntKind.i64.wrap (x.1.now + x.1.lease))] W fun e w' => e = .returned (.int .i64 (numR T.data.toList x.1.lease (x.1.now + x.1.lease) r0).1) ∧ LA w0 w' b g T (s, (numR T.data.toList x.1.lease (x.1.now + x.1.lease) r0).2)) := fun W s hW => by rw [hwr]; exact hW.num (by omega) (by omega)
    clear hwr
    have bd1 := numR_bd T.data.toList x.1.lease (x.1.now + x.1.lease) r0 (by omega)
    have C2 : Hid (∀ W s, LA w0 W b g T (s, (numR T.data.toList x.1.lease (x.1.now + x.1.lease) r0).2) → Calls Tryd.prog 19 #[.pointer (some ⟨g, 0, none⟩), .int .i64 1, .int .i64 (numR T.data.toList x.1.lease (x.1.now + x.1.lease) r0).1] W fun e w' => e = .returned (.int .i64 (numR T.data.toList 1 (numR T.data.toList x.1.lease (x.1.now + x.1.lease) r0).1 (numR T.data.toList x.1.lease (x.1.now + x.1.lease) r0).2).1) ∧ LA w0 w' b g T (s, (numR T.data.toList 1 (numR T.data.toList x.1.lease (x.1.now + x.1.lease) r0).1 (numR T.data.toList x.1.lease (x.1.now + x.1.lease) r0).2).2)) := fun W s hW => hW.num (by omega) (by omega)
    have C3 : Hid (∀ W s, LA w0 W b g T (s, (numR T.data.toList 1 (numR T.data.toList x.1.lease (x.1.now + x.1.lease) r0).1 (numR T.data.toList x.1.lease (x.1.now + x.1.lease) r0).2).2) → Calls Tryd.prog 42 #[.pointer (some ⟨g, 0, none⟩)] W fun e w' => e = .returned (.bool (flagB (numR T.data.toList 0 1 (numR T.data.toList 1 (numR T.data.toList x.1.lease (x.1.now + x.1.lease) r0).1 (numR T.data.toList x.1.lease (x.1.now + x.1.lease) r0).2).2).1)) ∧ LA w0 w' b g T (s, (numR T.data.toList 0 1 (numR T.data.toList 1 (numR T.data.toList x.1.lease (x.1.now + x.1.lease) r0).1 (numR T.data.toList x.1.lease (x.1.now + x.1.lease) r0).2).2).2)) := fun W s hW => hW.flag
    unfold wit3
    generalize numR T.data.toList 0 1 (numR T.data.toList 1 (numR T.data.toList x.1.lease (x.1.now + x.1.lease) r0).1 (numR T.data.toList x.1.lease (x.1.now + x.1.lease) r0).2).2 = y3 at *
    generalize numR T.data.toList 1 (numR T.data.toList x.1.lease (x.1.now + x.1.lease) r0).1 (numR T.data.toList x.1.lease (x.1.now + x.1.lease) r0).2 = y2 at *
    generalize numR T.data.toList x.1.lease (x.1.now + x.1.lease) r0 = y1 at *
    obtain ⟨v1, r1⟩ := y1
    obtain ⟨v2, r2⟩ := y2
    obtain ⟨v3, r3⟩ := y3
    dsimp only at *
    clear bd1
    obtain ⟨s, rx⟩ := x
    dsimp only at *
    generalize flagB v3 = fl at *
    have HV : Hid (-1 + v0 = v0 - 1) := by
      show -1 + v0 = v0 - 1
      omega
    have hne : (-1 + v0 == -1) = false := by
      rw [beq_eq_false_iff_ne]
      omega
    have hne2 : decide (-1 + v0 = -1) = false := decide_eq_false (by omega)
    have v00 : 0 < v0 := by omega
    clear hv
    go_enter Tryd.func20, Tryd.ntmps20
    go_wp2_with fail
    refine (C0.out _ H0.out).mono ?_
    rintro e w1 ⟨rfl, h1⟩
    have hC := h1.pat.cell
    have hF := h1.pat.free
    have H1 : Hid (LA w0 (w1.setCell ⟨b, 39, none⟩ (.int .i64 (-1 + v0))) b g T ({ s with holder := -1 + v0 }, r0)) := h1.set 39 _ rfl
    clear h1 C0 H0
    go_wp2_with fail
    clear hC hF
    generalize w1.setCell ⟨b, 39, none⟩ (.int .i64 (-1 + v0)) = W1 at *
    have q0 : W1.cell? ⟨b, 0, none⟩ = some (.int .i64 s.lease) := by rw [H1.out.pat.cell, pcg0]
    have q4 : W1.cell? ⟨b, 11, none⟩ = some (.int .i64 s.now) := by rw [H1.out.pat.cell, pcg11]
    go_region_held3 (fun w' => w'.cell? ⟨b, 0, none⟩ = some (.int .i64 s.lease) ∧ w'.cell? ⟨b, 11, none⟩ = some (.int .i64 s.now)) (go_keep) (first | (go_at_call 19; refine (C1.out _ _ (LA.here H1.out (by rfl) (by rfl) (by rfl) (by rfl))).mono ?_; rintro e w2 ⟨rfl, h2⟩; have c2 : w2.cell? ⟨b, 41, none⟩ = some (.int .i64 s.wtil) := (by rw [h2.pat.cell, pcg41]); have f2 := h2.pat.free; have y0 : w2.cell? ⟨b, 0, none⟩ = some (.int .i64 s.lease) := (by rw [h2.pat.cell, pcg0]); have y1 : w2.cell? ⟨b, 11, none⟩ = some (.int .i64 s.now) := (by rw [h2.pat.cell, pcg11]); have hs2 := LA.set h2 (s' := { s with holder := -1 + v0, wtil := v1 }) 41 (.int .i64 v1) rfl; have z0 : (w2.setCell ⟨b, 41, none⟩ (.int .i64 v1)).cell? ⟨b, 0, none⟩ = some (.int .i64 s.lease) := (by rw [hs2.pat.cell, pcg0]); have z1 : (w2.setCell ⟨b, 41, none⟩ (.int .i64 v1)).cell? ⟨b, 11, none⟩ = some (.int .i64 s.now) := (by rw [hs2.pat.cell, pcg11]); clear hs2))
    all_goals
      have H2 : Hid (LA w0 (w2.setCell ⟨b, 41, none⟩ (.int .i64 v1)) b g T ({ s with holder := -1 + v0, wtil := v1 }, r1)) := h2.set 41 _ rfl
      clear h2 C1 H1 c2 f2 y0 y1 q0 q4 z0 z1
      generalize w2.setCell ⟨b, 41, none⟩ (.int .i64 v1) = W2 at *
      have p1 : W2.cell? ⟨b, 41, none⟩ = some (.int .i64 v1) := by rw [H2.out.pat.cell, pcg41]
      go_wp2_with fail
      refine (C2.out _ _ H2.out).mono ?_
      rintro e w3 ⟨rfl, h3⟩
      have c3 : w3.cell? ⟨b, 40, none⟩ = some (.int .i64 s.wepoch) := by rw [h3.pat.cell, pcg40]
      have f3 := h3.pat.free
      have H3 : Hid (LA w0 (w3.setCell ⟨b, 40, none⟩ (.int .i64 v2)) b g T ({ s with holder := -1 + v0, wtil := v1, wepoch := v2 }, r2)) := h3.set 40 _ rfl
      clear h3 C2 H2 p1
      go_wp2_with fail
      clear c3 f3
      generalize w3.setCell ⟨b, 40, none⟩ (.int .i64 v2) = W3 at *
      refine (C3.out _ _ H3.out).mono ?_
      rintro e w4 ⟨rfl, h4⟩
      have c4 : w4.cell? ⟨b, 42, none⟩ = some (.bool s.solo) := by rw [h4.pat.cell, pcg42]
      have f4 := h4.pat.free
      have H4 : Hid (LA w0 (w4.setCell ⟨b, 42, none⟩ (.bool fl)) b g T ({ s with holder := -1 + v0, wtil := v1, wepoch := v2, solo := fl }, r3)) := h4.set 42 _ rfl
      clear h4 C3 H3
      go_wp2_with fail
      go_end0
      refine ⟨rfl, ?_⟩
      rw [← HV.out]
      exact H4.out

end Go.Proofs.YtpfahgogjeignabDoor

namespace Go.Proofs.YtpfahgogjeignabDoor
open Go.RowKit
attribute [local go_sem ↓] Go.wp_at_zero Go.wp_at_succ
attribute [local go_sem] pcg0 pcg1 pcg2 pcg3 pcg4 pcg5 pcg6 pcg7 pcg8 pcg9 pcg10 pcg11 pcg12 pcg13 pcg14 pcg15 pcg16 pcg17 pcg18 pcg19 pcg20 pcg21 pcg22 pcg23 pcg24 pcg25 pcg26 pcg27 pcg28 pcg29 pcg30 pcg31 pcg32 pcg33 pcg34 pcg35 pcg36 pcg37 pcg38 pcg39 pcg40 pcg41 pcg42
attribute [local go_sem] pcgRateN pcgBurstN pcgLinkN pcgUpN pcgEpochN pcgTilN pcgAloneN pcgLevN pcgWinN


theorem setN_lev (s : PC) (i k : Nat) (hi : i < 2) (hk : k < 4) (v : Int) : (pcArr s).setIfInBounds (15 + i * 12 + 4 + k) (.int .i64 v) = pcArr (s.setLev i k v) := by
  rcases (by omega : i = 0 ∨ i = 1) with rfl | rfl <;> rcases (by omega : k = 0 ∨ k = 1 ∨ k = 2 ∨ k = 3) with rfl | rfl | rfl | rfl <;> rfl
theorem setN_win (s : PC) (i k : Nat) (hi : i < 2) (hk : k < 4) (v : Int) : (pcArr s).setIfInBounds (15 + i * 12 + 8 + k) (.int .i64 v) = pcArr (s.setWn i k v) := by
  rcases (by omega : i = 0 ∨ i = 1) with rfl | rfl <;> rcases (by omega : k = 0 ∨ k = 1 ∨ k = 2 ∨ k = 3) with rfl | rfl | rfl | rfl <;> rfl
theorem setN_down (s : PC) (i : Nat) (hi : i < 2) : (pcArr s).setIfInBounds (15 + i * 12) (.bool false) = pcArr (s.setOwn i false (s.til i) (s.epoch i) (s.alone i)) := by
  rcases (by omega : i = 0 ∨ i = 1) with rfl | rfl <;> rfl
theorem setN_up (s : PC) (i : Nat) (hi : i < 2) (t e : Int) (o : Bool) : (pcArr s).setIfInBounds (15 + i * 12) (.bool true) = pcArr { s with up := upd s.up i true } ∧
    (pcArr { s with up := upd s.up i true }).setIfInBounds (15 + i * 12 + 2) (.int .i64 t) = pcArr { s with up := upd s.up i true, til := upd s.til i t } ∧
    (pcArr { s with up := upd s.up i true, til := upd s.til i t }).setIfInBounds (15 + i * 12 + 1) (.int .i64 e) = pcArr { s with up := upd s.up i true, til := upd s.til i t, epoch := upd s.epoch i e } ∧
    (pcArr { s with up := upd s.up i true, til := upd s.til i t, epoch := upd s.epoch i e }).setIfInBounds (15 + i * 12 + 3) (.bool o) = pcArr (s.setOwn i true t e o) := by
  rcases (by omega : i = 0 ∨ i = 1) with rfl | rfl <;> exact ⟨rfl, rfl, rfl, rfl⟩
theorem wins_keep (t : List UInt8) (i : Nat) (x : LS) : ∀ n, (wins t i n x).1.count = x.1.count ∧ (wins t i n x).1.window = x.1.window
  | 0 => ⟨rfl, rfl⟩
  | n + 1 => wins_keep t i x n

set_option maxRecDepth 100000 in
set_option maxHeartbeats 2000000 in
theorem rgate_any (b g : Nat) (T : ByteArray) (x : LS) (i : Nat) (hi : i < 2) (hx : Half x.1 x.1.count.toNat) (w0 w : World) (h : LA w0 w b g T x) :
    Calls Tryd.prog 21 #[.pointer (some ⟨b, 0, none⟩), .pointer (some ⟨g, 0, none⟩), .int .i64 i] w fun e w' => e = .returned (.tuple #[]) ∧ LA w0 w' b g T (gateR T.data.toList i x) := by
  have H0 : Hid (LA w0 w b g T x) := h
  have c0 := hx.head.2.2.2.2.1
  have c1 := hx.head.2.2.2.2.2
  obtain ⟨n, hn⟩ : ∃ n : Nat, x.1.count = (n : Int) := ⟨x.1.count.toNat, by omega⟩
  have n4 : n ≤ 4 := by omega
  have hi2 : (i : Int) < 2 := by omega
  have HX : Hid (∀ k, k ≤ n → Half (levs T.data.toList i k x).1 n ∧ (levs T.data.toList i k x).1.count = (n : Int)) := by
    intro k hk
    have := levs_half T.data.toList i hx k (by omega)
    rw [hn, Int.toNat_natCast] at this
    exact this
  have HGR : Hid (gateR T.data.toList i x = upR T.data.toList i (levs T.data.toList i n x)) := by
    show upR T.data.toList i (levs T.data.toList i x.1.count.toNat x) = _
    rw [hn, Int.toNat_natCast]
  clear h hx c0 c1 hn
  rw [HGR.out]
  clear HGR
  go_enter Tryd.func21, Tryd.ntmps21
  go_wp2_with fail
  go_loopw [6, 7] (fun x' _ wr => ∃ k : Nat, k ≤ n ∧ x' = .int .i64 k ∧ LA w0 wr b g T (levs T.data.toList i k x)) (fun x' _ _ => n - (intOf x').toNat)
  case atStart => exact ⟨0, by omega, rfl, H0.out⟩
  case round =>
    obtain ⟨k, hk, rfl, hr⟩ := hrel
    clear H0
    obtain ⟨hh, hct⟩ := HX.out k hk
    have hcount : wr.cell? ⟨b, 2, none⟩ = some (.int .i64 (n : Int)) := by rw [hr.pat.cell, pcg2, hct]
    have HR : Hid (LA w0 wr b g T (levs T.data.toList i k x)) := hr
    by_cases hlt : k < n
    · have hki : (k : Int) < n := by omega
      have k4 : k < 4 := by omega
      have k4i : (k : Int) < 4 := by omega
      obtain ⟨x2, HXX⟩ : ∃ x2, Hid (x2 = levs T.data.toList i (k + 1) x) := ⟨_, rfl⟩
      have HS : Hid (x2 = ((levs T.data.toList i k x).1.setLev i k (numR T.data.toList 0 ((levs T.data.toList i k x).1.burst k - (levs T.data.toList i k x).1.window) (levs T.data.toList i k x).2).1, (numR T.data.toList 0 ((levs T.data.toList i k x).1.burst k - (levs T.data.toList i k x).1.window) (levs T.data.toList i k x).2).2)) := HXX.out
      have ok : (levs T.data.toList i k x).1.Ok := Half.ok (by rw [hct, Int.toNat_natCast]; exact hh)
      have b1 := hh.fits k hlt
      have b2 := hh.burst k
      have b3 := hh.head
      clear hh hct
      generalize levs T.data.toList i k x = x1 at *
      have D1 : Hid (∀ W, LA w0 W b g T x1 → Calls Tryd.prog 19 #[.pointer (some ⟨g, 0, none⟩), .int .i64 0, .int .i64 (x1.1.burst k - x1.1.window)] W fun e w' => e = .returned (.int .i64 (numR T.data.toList 0 (x1.1.burst k - x1.1.window) x1.2).1) ∧ LA w0 w' b g T (x1.1, (numR T.data.toList 0 (x1.1.burst k - x1.1.window) x1.2).2)) := fun W hW => hW.num (by omega) (by omega)
      generalize numR T.data.toList 0 (x1.1.burst k - x1.1.window) x1.2 = y1 at *
      obtain ⟨t1, q1⟩ := y1
      dsimp only at *
      have CR := room_any b x1.1 (k : Int) (by omega) k4i wr hr.pat ok
      rw [Int.toNat_natCast] at CR
      clear b1 b2 b3 ok hr
      go_wp2_with fail
      refine CR.mono ?_
      rintro e w2 ⟨rfl, nd, rfl⟩
      have HR2 : Hid (LA w0 (wr.drewN nd) b g T x1) := HR.out.here rfl rfl rfl rfl
      clear CR HR hcount
      generalize wr.drewN nd = W2 at *
      generalize x1.1.burst k - x1.1.window = rm at *
      have fr := HR2.out.pat.free
      go_wp2_with fail
      go_region_with (go_at_call 19; refine (D1.out _ (LA.here HR2.out (by rfl) (by rfl) (by rfl) (by rfl))).mono ?_; rintro e w4 ⟨rfl, h4⟩; have c4 : w4.cell? ⟨b, 15 + i * 12 + 4 + k, none⟩ = some (.int .i64 (x1.1.lev i k)) := (by rw [h4.pat.cell, pcgLevN _ i k hi k4]); have f4 := h4.pat.free)
      all_goals
        have H4 : Hid (LA w0 (w4.setCell ⟨b, 15 + i * 12 + 4 + k, none⟩ (.int .i64 t1)) b g T x2) := (LA.set h4 (s' := x1.1.setLev i k t1) _ _ (setN_lev x1.1 i k hi k4 t1)).as HS.out.symm
        clear h4 HR2 D1 c4 f4 fr
        generalize w4.setCell ⟨b, 15 + i * 12 + 4 + k, none⟩ (.int .i64 t1) = W4 at *
        go_wp2_with fail
        exact ⟨⟨k + 1, by omega, by go_num, H4.out.as HXX.out⟩, by simp [intOf]; omega⟩
    · have hke : k = n := by omega
      subst hke
      clear hr
      have wt := hh.wit
      have hd := hh.head
      clear hh
      generalize hy : levs T.data.toList i k x = y at *
      have HY : Hid (levs T.data.toList i k x = y) := hy
      clear hy
      have C1 : Hid (∀ W, LA w0 W b g T y → Calls Tryd.prog 42 #[.pointer (some ⟨g, 0, none⟩)] W fun e w' => e = .returned (.bool (flagB (numR T.data.toList 0 1 y.2).1)) ∧ LA w0 w' b g T (y.1, (numR T.data.toList 0 1 y.2).2)) := fun W hW => hW.flag
      have HU : Hid (upR T.data.toList i y = if flagB (numR T.data.toList 0 1 y.2).1 then wins T.data.toList i y.1.count.toNat (ownR T.data.toList i (y.1, (numR T.data.toList 0 1 y.2).2)) else (y.1.setOwn i false (y.1.til i) (y.1.epoch i) (y.1.alone i), (numR T.data.toList 0 1 y.2).2)) := rfl
      have bw := hd.2.2.1
      have bw1 := hd.2.2.2.1
      obtain ⟨wt0, wt1, we0, we1⟩ := wt
      clear hd
      generalize numR T.data.toList 0 1 y.2 = y1 at *
      obtain ⟨v1, r1⟩ := y1
      dsimp only at HU C1
      generalize flagB v1 = fl at *
      have frz := HR.out.pat.free
      by_cases hfl : fl = true
      · subst hfl
        have C2 : Hid (∀ W s, LA w0 W b g T (s, r1) → Calls Tryd.prog 19 #[.pointer (some ⟨g, 0, none⟩), .int .i64 0, .int .i64 y.1.wtil] W fun e w' => e = .returned (.int .i64 (numR T.data.toList 0 y.1.wtil r1).1) ∧ LA w0 w' b g T (s, (numR T.data.toList 0 y.1.wtil r1).2)) := fun W s hW => hW.num (by omega) (by omega)
        have C3 : Hid (∀ W s, LA w0 W b g T (s, (numR T.data.toList 0 y.1.wtil r1).2) → Calls Tryd.prog 19 #[.pointer (some ⟨g, 0, none⟩), .int .i64 0, .int .i64 y.1.wepoch] W fun e w' => e = .returned (.int .i64 (numR T.data.toList 0 y.1.wepoch (numR T.data.toList 0 y.1.wtil r1).2).1) ∧ LA w0 w' b g T (s, (numR T.data.toList 0 y.1.wepoch (numR T.data.toList 0 y.1.wtil r1).2).2)) := fun W s hW => hW.num (by omega) (by omega)
        have C4 : Hid (∀ W s, LA w0 W b g T (s, (numR T.data.toList 0 y.1.wepoch (numR T.data.toList 0 y.1.wtil r1).2).2) → Calls Tryd.prog 42 #[.pointer (some ⟨g, 0, none⟩)] W fun e w' => e = .returned (.bool (flagB (numR T.data.toList 0 1 (numR T.data.toList 0 y.1.wepoch (numR T.data.toList 0 y.1.wtil r1).2).2).1)) ∧ LA w0 w' b g T (s, (numR T.data.toList 0 1 (numR T.data.toList 0 y.1.wepoch (numR T.data.toList 0 y.1.wtil r1).2).2).2)) := fun W s hW => hW.flag
        obtain ⟨z, hz⟩ : ∃ z, z = ownR T.data.toList i (y.1, r1) := ⟨_, rfl⟩
        have HZ : Hid (z = (y.1.setOwn i true (numR T.data.toList 0 y.1.wtil r1).1 (numR T.data.toList 0 y.1.wepoch (numR T.data.toList 0 y.1.wtil r1).2).1 (flagB (numR T.data.toList 0 1 (numR T.data.toList 0 y.1.wepoch (numR T.data.toList 0 y.1.wtil r1).2).2).1), (numR T.data.toList 0 1 (numR T.data.toList 0 y.1.wepoch (numR T.data.toList 0 y.1.wtil r1).2).2).2)) := hz
        have HU2 : Hid (upR T.data.toList i y = wins T.data.toList i k z) := by
          show _ = _
          rw [HU.out, if_pos rfl, hct, Int.toNat_natCast, hz]
        have HW : Hid (z.1.count = (k : Int) ∧ z.1.window = y.1.window) := by
          rw [hz]
          exact ⟨hct, rfl⟩
        clear hz HU hct
        generalize numR T.data.toList 0 1 (numR T.data.toList 0 y.1.wepoch (numR T.data.toList 0 y.1.wtil r1).2).2 = y4 at *
        generalize numR T.data.toList 0 y.1.wepoch (numR T.data.toList 0 y.1.wtil r1).2 = y3 at *
        generalize numR T.data.toList 0 y.1.wtil r1 = y2 at *
        obtain ⟨v2, r2⟩ := y2
        obtain ⟨v3, r3⟩ := y3
        obtain ⟨v4, r4⟩ := y4
        dsimp only at C2 C3 C4 HZ
        generalize flagB v4 = f4 at *
        generalize hs : y.1 = s at *
        have HSS : Hid (y.1 = s) := hs
        have HR1 : Hid (LA w0 wr b g T (s, y.2)) := by
          have := HR.out
          rw [show y = (s, y.2) from by rw [← hs]] at this
          exact this
        clear hs
        go_wp2_with fail
        go_region_with (go_at_call 42; refine (C1.out _ (LA.here HR.out (by rfl) (by rfl) (by rfl) (by rfl))).mono ?_; rintro e w4 ⟨rfl, h4⟩; have c4 : w4.cell? ⟨b, 15 + i * 12, none⟩ = some (.bool (s.up i)) := (by rw [h4.pat.cell, pcgUpN _ i hi]); have g4 := h4.pat.free)
        have H4 : Hid (LA w0 (w4.setCell ⟨b, 15 + i * 12, none⟩ (.bool true)) b g T ({ s with up := upd s.up i true }, r1)) := LA.set h4 _ _ (setN_up s i hi v2 v3 f4).1
        clear h4 HR HR1 C1 c4 g4 frz hcount
        generalize w4.setCell ⟨b, 15 + i * 12, none⟩ (.bool true) = W4 at *
        have u4 : W4.cell? ⟨b, 15 + i * 12, none⟩ = some (.bool true) := by rw [H4.out.pat.cell, pcgUpN _ i hi]; show some (Value.bool (upd s.up i true i)) = _; rw [upd_same]
        have t4 : W4.cell? ⟨b, 41, none⟩ = some (.int .i64 s.wtil) := by rw [H4.out.pat.cell, pcg41]
        go_wp2_with fail
        clear u4
        go_region_held3 (fun w' => w'.cell? ⟨b, 41, none⟩ = some (.int .i64 s.wtil)) (go_keep) (first | (go_at_call 19; refine (C2.out _ _ (LA.here H4.out (by rfl) (by rfl) (by rfl) (by rfl))).mono ?_; rintro e w5 ⟨rfl, h5⟩; have c5 : w5.cell? ⟨b, 15 + i * 12 + 2, none⟩ = some (.int .i64 (s.til i)) := (by rw [h5.pat.cell, pcgTilN _ i hi]); have g5 := h5.pat.free; have y5 : w5.cell? ⟨b, 41, none⟩ = some (.int .i64 s.wtil) := (by rw [h5.pat.cell, pcg41]); have hs5 := LA.set h5 _ (.int .i64 v2) (setN_up s i hi v2 v3 f4).2.1; have z5 : (w5.setCell ⟨b, 15 + i * 12 + 2, none⟩ (.int .i64 v2)).cell? ⟨b, 41, none⟩ = some (.int .i64 s.wtil) := (by rw [hs5.pat.cell, pcg41]); clear hs5))
        all_goals
          have H5 : Hid (LA w0 (w5.setCell ⟨b, 15 + i * 12 + 2, none⟩ (.int .i64 v2)) b g T ({ s with up := upd s.up i true, til := upd s.til i v2 }, r2)) := LA.set h5 _ _ (setN_up s i hi v2 v3 f4).2.1
          clear h5 H4 C2 c5 g5 y5 z5 t4
          generalize w5.setCell ⟨b, 15 + i * 12 + 2, none⟩ (.int .i64 v2) = W5 at *
          have t5 : W5.cell? ⟨b, 40, none⟩ = some (.int .i64 s.wepoch) := by rw [H5.out.pat.cell, pcg40]
          go_wp2_with fail
          go_region_held3 (fun w' => w'.cell? ⟨b, 40, none⟩ = some (.int .i64 s.wepoch)) (go_keep) (first | (go_at_call 19; refine (C3.out _ _ (LA.here H5.out (by rfl) (by rfl) (by rfl) (by rfl))).mono ?_; rintro e w6 ⟨rfl, h6⟩; have c6 : w6.cell? ⟨b, 15 + i * 12 + 1, none⟩ = some (.int .i64 (s.epoch i)) := (by rw [h6.pat.cell, pcgEpochN _ i hi]); have g6 := h6.pat.free; have y6 : w6.cell? ⟨b, 40, none⟩ = some (.int .i64 s.wepoch) := (by rw [h6.pat.cell, pcg40]); have hs6 := LA.set h6 _ (.int .i64 v3) (setN_up s i hi v2 v3 f4).2.2.1; have z6 : (w6.setCell ⟨b, 15 + i * 12 + 1, none⟩ (.int .i64 v3)).cell? ⟨b, 40, none⟩ = some (.int .i64 s.wepoch) := (by rw [hs6.pat.cell, pcg40]); clear hs6))
        all_goals
          have H6 : Hid (LA w0 (w6.setCell ⟨b, 15 + i * 12 + 1, none⟩ (.int .i64 v3)) b g T ({ s with up := upd s.up i true, til := upd s.til i v2, epoch := upd s.epoch i v3 }, r3)) := LA.set h6 _ _ (setN_up s i hi v2 v3 f4).2.2.1
          clear h6 H5 C3 c6 g6 y6 z6 t5
          generalize w6.setCell ⟨b, 15 + i * 12 + 1, none⟩ (.int .i64 v3) = W6 at *
          have fr6 := H6.out.pat.free
          go_wp2_with fail
          go_region_with (go_at_call 42; refine (C4.out _ _ (LA.here H6.out (by rfl) (by rfl) (by rfl) (by rfl))).mono ?_; rintro e w7 ⟨rfl, h7⟩; have c7 : w7.cell? ⟨b, 15 + i * 12 + 3, none⟩ = some (.bool (s.alone i)) := (by rw [h7.pat.cell, pcgAloneN _ i hi]); have g7 := h7.pat.free)
        all_goals
          have H7 : Hid (LA w0 (w7.setCell ⟨b, 15 + i * 12 + 3, none⟩ (.bool f4)) b g T z) := (LA.set h7 _ _ (setN_up s i hi v2 v3 f4).2.2.2).as HZ.out.symm
          clear h7 H6 C4 c7 g7 fr6
          generalize w7.setCell ⟨b, 15 + i * 12 + 3, none⟩ (.bool f4) = W7 at *
          go_wp2_with fail
          go_loopw [8] (fun x' wx => ∃ q : Nat, q ≤ k ∧ x' = .int .i64 q ∧ LA w0 wx b g T (wins T.data.toList i q z)) (fun x' _ => k - (intOf x').toNat)
          case atStart => exact ⟨0, by omega, rfl, H7.out⟩
          case round =>
            obtain ⟨q, hq, rfl, hr⟩ := hrel
            clear H7
            obtain ⟨kc, kw⟩ := wins_keep T.data.toList i z q
            have hcount : wr.cell? ⟨b, 2, none⟩ = some (.int .i64 (k : Int)) := by rw [hr.pat.cell, pcg2, kc, HW.out.1]
            have hwin : wr.cell? ⟨b, 1, none⟩ = some (.int .i64 s.window) := by rw [hr.pat.cell, pcg1, kw, HW.out.2]
            have HR : Hid (LA w0 wr b g T (wins T.data.toList i q z)) := hr
            have KW : Hid ((wins T.data.toList i q z).1.window = s.window) := kw.trans HW.out.2
            clear kc kw hr
            by_cases hlq : q < k
            · have hqi : (q : Int) < k := by omega
              have q4 : q < 4 := by omega
              have q4i : (q : Int) < 4 := by omega
              have q0i : (0 : Int) ≤ (q : Int) := by omega
              obtain ⟨x2, HXX⟩ : ∃ x2, Hid (x2 = wins T.data.toList i (q + 1) z) := ⟨_, rfl⟩
              have HS : Hid (x2 = ((wins T.data.toList i q z).1.setWn i q (numR T.data.toList 0 (wins T.data.toList i q z).1.window (wins T.data.toList i q z).2).1, (numR T.data.toList 0 (wins T.data.toList i q z).1.window (wins T.data.toList i q z).2).2)) := HXX.out
              rw [KW.out] at HS
              generalize wins T.data.toList i q z = x1 at *
              have D1 : Hid (∀ W, LA w0 W b g T x1 → Calls Tryd.prog 19 #[.pointer (some ⟨g, 0, none⟩), .int .i64 0, .int .i64 s.window] W fun e w' => e = .returned (.int .i64 (numR T.data.toList 0 s.window x1.2).1) ∧ LA w0 w' b g T (x1.1, (numR T.data.toList 0 s.window x1.2).2)) := fun W hW => hW.num (by omega) (by omega)
              generalize numR T.data.toList 0 s.window x1.2 = y9 at *
              obtain ⟨t1, q1⟩ := y9
              dsimp only at D1 HS
              have KW2 : Hid (x1.1.window = s.window) := KW.out
              clear KW
              go_wp2_with fail
              go_region_held3 (fun w' => w'.cell? ⟨b, 1, none⟩ = some (.int .i64 s.window)) (go_keep) (first | (go_at_call 19; refine (D1.out _ (LA.here HR.out (by rfl) (by rfl) (by rfl) (by rfl))).mono ?_; rintro e w9 ⟨rfl, h9⟩; have c9 : w9.cell? ⟨b, 15 + i * 12 + 8 + q, none⟩ = some (.int .i64 (x1.1.win i q)) := (by rw [h9.pat.cell, pcgWinN _ i q hi q4]); have g9 := h9.pat.free; have y9 : w9.cell? ⟨b, 1, none⟩ = some (.int .i64 s.window) := (by rw [h9.pat.cell, pcg1, KW2.out]); have hs9 := LA.set h9 _ (.int .i64 t1) (setN_win x1.1 i q hi q4 t1); have z9 : (w9.setCell ⟨b, 15 + i * 12 + 8 + q, none⟩ (.int .i64 t1)).cell? ⟨b, 1, none⟩ = some (.int .i64 s.window) := (by rw [hs9.pat.cell, pcg1]; show some (Value.int .i64 x1.1.window) = _; rw [KW2.out]); clear hs9))
              all_goals
                have H9 : Hid (LA w0 (w9.setCell ⟨b, 15 + i * 12 + 8 + q, none⟩ (.int .i64 t1)) b g T x2) := (LA.set h9 _ _ (setN_win x1.1 i q hi q4 t1)).as HS.out.symm
                clear h9 HR D1 c9 g9 y9 z9 hcount hwin
                generalize w9.setCell ⟨b, 15 + i * 12 + 8 + q, none⟩ (.int .i64 t1) = W9 at *
                go_wp2_with fail
                exact ⟨⟨q + 1, by omega, by go_num, H9.out.as HXX.out⟩, by simp [intOf]; omega⟩
            · have hqe : q = k := by omega
              subst hqe
              go_wp2_with fail
              go_end0
              refine ⟨rfl, ?_⟩
              rw [HY.out, HU2.out]
              exact HR.out
      · have hfl' : fl = false := by simpa using hfl
        subst hfl'
        have HU2 : Hid (upR T.data.toList i y = (y.1.setOwn i false (y.1.til i) (y.1.epoch i) (y.1.alone i), r1)) := HU.out
        clear HU hfl
        go_wp2_with fail
        go_region_with (go_at_call 42; refine (C1.out _ (LA.here HR.out (by rfl) (by rfl) (by rfl) (by rfl))).mono ?_; rintro e w4 ⟨rfl, h4⟩; have c4 : w4.cell? ⟨b, 15 + i * 12, none⟩ = some (.bool (y.1.up i)) := (by rw [h4.pat.cell, pcgUpN _ i hi]); have g4 := h4.pat.free)
        have H4 : Hid (LA w0 (w4.setCell ⟨b, 15 + i * 12, none⟩ (.bool false)) b g T (upR T.data.toList i y)) := (LA.set h4 _ _ (setN_down y.1 i hi)).as HU2.out.symm
        clear h4 HR C1 c4 g4 frz hcount
        generalize w4.setCell ⟨b, 15 + i * 12, none⟩ (.bool false) = W4 at *
        have u4 : W4.cell? ⟨b, 15 + i * 12, none⟩ = some (.bool false) := by rw [H4.out.pat.cell, HU2.out, pcgUpN _ i hi]; show some (Value.bool (upd y.1.up i false i)) = _; rw [upd_same]
        go_wp2_with fail
        try simp only [Exit.inBlock, Exit.then]
        refine bodyPost_ret (results_none rfl _ _ _) rfl ?_
        refine ⟨rfl, ?_⟩
        rw [HY.out]
        exact H4.out

end Go.Proofs.YtpfahgogjeignabDoor

namespace Go.Proofs.YtpfahgogjeignabDoor
open Go.RowKit
attribute [local go_sem ↓] Go.wp_at_zero Go.wp_at_succ
attribute [local go_sem] pcg0 pcg1 pcg2 pcg3 pcg4 pcg5 pcg6 pcg7 pcg8 pcg9 pcg10 pcg11 pcg12 pcg13 pcg14 pcg15 pcg16 pcg17 pcg18 pcg19 pcg20 pcg21 pcg22 pcg23 pcg24 pcg25 pcg26 pcg27 pcg28 pcg29 pcg30 pcg31 pcg32 pcg33 pcg34 pcg35 pcg36 pcg37 pcg38 pcg39 pcg40 pcg41 pcg42
attribute [local go_sem] pcgRateN pcgBurstN pcgLinkN pcgUpN pcgEpochN pcgTilN pcgAloneN pcgLevN pcgWinN


theorem setN_link (s : PC) (k : Nat) (hk : k < 3) (v : Int) : (pcArr s).setIfInBounds (12 + k) (.int .i64 v) = pcArr (s.setLink k v) := by
  rcases (by omega : k = 0 ∨ k = 1 ∨ k = 2) with rfl | rfl | rfl <;> rfl
def gates (t : List UInt8) : Nat → LS → LS
  | 0, x => x
  | i + 1, x => gateR t i (gates t i x)
theorem gates_half (t : List UInt8) {x : LS} (h : Half x.1 x.1.count.toNat) : ∀ n, Half (gates t n x).1 (gates t n x).1.count.toNat
  | 0 => h
  | n + 1 => gate_half t n (gates_half t h n)
/-- What Load answers. -/
def Loaded (T : ByteArray) (w : World) (e : Ending) (w' : World) : Prop :=
  ((loadR T.data.toList).2.bad = false ∧ (loadR T.data.toList).2.pos = T.size ∧ ∃ b', e = .returned (.tuple #[.pointer (some ⟨b', 0, none⟩), .int .i64 0]) ∧ w.heap.size ≤ b' ∧ PAt w' b' (loadR T.data.toList).1 ∧ Same w w') ∨
  (¬ ((loadR T.data.toList).2.bad = false ∧ (loadR T.data.toList).2.pos = T.size) ∧ e = .returned (.tuple #[.pointer none, .int .i64 10]) ∧ Same w w')

set_option maxRecDepth 100000 in
set_option maxHeartbeats 2000000 in
theorem load_walk (T : ByteArray) (hT : T.size ≤ 140737488355328) (w : World) (hl : Lib w) :
    Calls Tryd.prog 7 #[.string T] w (Loaded T w) := by
  have hpos := hl.pos
  have HA : Hid (LA ((w.alloc (.cells #[.string T, .int .i64 0, .bool false] 72)).alloc (.cells (pcArr PC.zero) 68)) ((w.alloc (.cells #[.string T, .int .i64 0, .bool false] 72)).alloc (.cells (pcArr PC.zero) 68)) (w.heap.size + 1) w.heap.size T (PC.zero, ⟨0, false⟩)) :=
    ⟨hpos, by omega, by omega, hT, (hl.alloc _).alloc _, PAt.of (BAt.made' _ _ (by simp) _ _) rfl, BAt.alloc (BAt.made' _ _ rfl _ _) _, Nat.zero_le _, Kept.refl _ _⟩
  have HS : Hid (Same w ((w.alloc (.cells #[.string T, .int .i64 0, .bool false] 72)).alloc (.cells (pcArr PC.zero) 68))) := Kept.alloc (Kept.alloc (Kept.refl _ _) _) _
  have HY : Hid (∀ w', Kept (fun k => k = w.heap.size + 1 ∨ k = w.heap.size) ((w.alloc (.cells #[.string T, .int .i64 0, .bool false] 72)).alloc (.cells (pcArr PC.zero) 68)) w' → Same w w') := fun w' k => ⟨k.os.trans HS.out.os, k.tape.trans HS.out.tape, k.output.trans HS.out.output, Nat.le_trans HS.out.size k.size, fun j hj _ => (k.block j (Nat.lt_of_lt_of_le hj HS.out.size) (by omega)).trans (HS.out.block j hj (fun h => h))⟩
  have HT : Hid (T.size ≤ 140737488355328) := hT
  have HX1 : Hid (Half (termsR T.data.toList (PC.zero, ⟨0, false⟩)).1 (termsR T.data.toList (PC.zero, ⟨0, false⟩)).1.count.toNat) := terms_half T.data.toList _
  have HLR : Hid (loadR T.data.toList = gates T.data.toList 2 (witR T.data.toList (links T.data.toList 3 (nowR T.data.toList (termsR T.data.toList (PC.zero, ⟨0, false⟩)))))) := rfl
  unfold Loaded
  generalize loadR T.data.toList = lr at *
  clear hT hl hpos HS
  go_enter Tryd.func7, Tryd.ntmps7
  go_wp2_with fail
  refine (rterms_any _ _ T _ _ _ HA.out).mono ?_
  rintro e w1 ⟨rfl, h1⟩
  clear HA
  generalize (w.alloc (.cells #[.string T, .int .i64 0, .bool false] 72)).alloc (.cells (pcArr PC.zero) 68) = W0 at *
  generalize termsR T.data.toList (PC.zero, ⟨0, false⟩) = x1 at *
  obtain ⟨x2, hx2⟩ : ∃ x2, x2 = nowR T.data.toList x1 := ⟨_, rfl⟩
  have HX2 : Hid (Half x2.1 x2.1.count.toNat) := by rw [hx2]; exact now_half T.data.toList HX1.out
  rw [← hx2] at HLR
  have HD2 : Hid (x2 = (x1.1.setNow (numR T.data.toList 0 1000000000000 x1.2).1, (numR T.data.toList 0 1000000000000 x1.2).2)) := hx2
  clear hx2 HX1
  generalize hg : w.heap.size = g at *
  have H1 : Hid (LA W0 w1 (g + 1) g T x1) := h1
  have hc1 := h1.pat.cell
  have hf1 := h1.pat.free
  clear h1
  go_wp2_with fail
  refine (H1.out.num (by omega) (by omega)).mono ?_
  rintro e w2 ⟨rfl, h2⟩
  have hc2 : w2.cell? ⟨g + 1, 11, none⟩ = some (.int .i64 x1.1.now) := by rw [h2.pat.cell, pcg11]
  have hf2 := h2.pat.free
  have H2 : Hid (LA W0 (w2.setCell ⟨g + 1, 11, none⟩ (.int .i64 (numR T.data.toList 0 1000000000000 x1.2).1)) (g + 1) g T x2) := (h2.set (s' := x1.1.setNow (numR T.data.toList 0 1000000000000 x1.2).1) 11 _ rfl).as HD2.out.symm
  clear h2 H1 hc1 hf1 HD2
  generalize (numR T.data.toList 0 1000000000000 x1.2).1 = nw at *
  go_wp2_with fail
  clear hc2 hf2
  generalize w2.setCell ⟨g + 1, 11, none⟩ (.int .i64 nw) = W2 at *
  go_loopw [6, 21] (fun _ x' wr => ∃ k : Nat, k ≤ 3 ∧ x' = .int .i64 k ∧ LA W0 wr (g + 1) g T (links T.data.toList k x2)) (fun _ x' _ => 3 - (intOf x').toNat)
  case atStart => exact ⟨0, by omega, rfl, H2.out⟩
  case round =>
    obtain ⟨k, hk, rfl, hr⟩ := hrel
    clear H2
    have HR : Hid (LA W0 wr (g + 1) g T (links T.data.toList k x2)) := hr
    by_cases hlt : k < 3
    · have hki : (k : Int) < 3 := by omega
      obtain ⟨x3, HXX⟩ : ∃ x3, Hid (x3 = links T.data.toList (k + 1) x2) := ⟨_, rfl⟩
      have HS : Hid (x3 = ((links T.data.toList k x2).1.setLink k (numR T.data.toList 0 2 (links T.data.toList k x2).2).1, (numR T.data.toList 0 2 (links T.data.toList k x2).2).2)) := HXX.out
      generalize links T.data.toList k x2 = y at *
      have D1 : Hid (∀ W, LA W0 W (g + 1) g T y → Calls Tryd.prog 19 #[.pointer (some ⟨g, 0, none⟩), .int .i64 0, .int .i64 2] W fun e w' => e = .returned (.int .i64 (numR T.data.toList 0 2 y.2).1) ∧ LA W0 w' (g + 1) g T (y.1, (numR T.data.toList 0 2 y.2).2)) := fun W hW => hW.num (by omega) (by omega)
      generalize numR T.data.toList 0 2 y.2 = y1 at *
      obtain ⟨t1, q1⟩ := y1
      dsimp only at D1 HS
      have fr := hr.pat.free
      clear hr
      go_wp2_with fail
      go_region_with (go_at_call 19; refine (D1.out _ (LA.here HR.out (by rfl) (by rfl) (by rfl) (by rfl))).mono ?_; rintro e w4 ⟨rfl, h4⟩; have c4 : w4.cell? ⟨g + 1, 12 + k, none⟩ = some (.int .i64 (y.1.link k)) := (by rw [h4.pat.cell, pcgLinkN _ k hlt]); have f4 := h4.pat.free)
      all_goals
        have H4 : Hid (LA W0 (w4.setCell ⟨g + 1, 12 + k, none⟩ (.int .i64 t1)) (g + 1) g T x3) := (LA.set h4 _ _ (setN_link y.1 k hlt t1)).as HS.out.symm
        clear h4 HR D1 c4 f4 fr
        generalize w4.setCell ⟨g + 1, 12 + k, none⟩ (.int .i64 t1) = W4 at *
        go_wp2_with fail
        exact ⟨⟨k + 1, by omega, by go_num, H4.out.as HXX.out⟩, by simp [intOf]; omega⟩
    · have hke : k = 3 := by omega
      subst hke
      clear hr
      have HX3 : Hid (Half (links T.data.toList 3 x2).1 (links T.data.toList 3 x2).1.count.toNat) := links_half T.data.toList HX2.out 3
      generalize links T.data.toList 3 x2 = x3 at *
      have CW := rwit_any (g + 1) g T x3 HX3.out.head.1 HX3.out.head.2.1 HX3.out.now.1 HX3.out.now.2 W0 wr HR.out
      have HX4 : Hid (Half (witR T.data.toList x3).1 (witR T.data.toList x3).1.count.toNat) := wit_half T.data.toList HX3.out
      generalize witR T.data.toList x3 = x4 at *
      go_wp2_with fail
      refine CW.mono ?_
      rintro e w5 ⟨rfl, h5⟩
      have H5 : Hid (LA W0 w5 (g + 1) g T x4) := h5
      clear h5 CW HR HX3 HX2
      go_wp2_with fail
      go_loopw [7, 35] (fun _ x' wx => ∃ q : Nat, q ≤ 2 ∧ x' = .int .i64 q ∧ LA W0 wx (g + 1) g T (gates T.data.toList q x4)) (fun _ x' _ => 2 - (intOf x').toNat)
      case atStart => exact ⟨0, by omega, rfl, H5.out⟩
      case round =>
        obtain ⟨q, hq, rfl, hr⟩ := hrel
        clear H5
        have HR : Hid (LA W0 wr (g + 1) g T (gates T.data.toList q x4)) := hr
        clear hr
        by_cases hlq : q < 2
        · have hqi : (q : Int) < 2 := by omega
          have CG := rgate_any (g + 1) g T (gates T.data.toList q x4) q hlq (gates_half T.data.toList HX4.out q) W0 wr HR.out
          have HG : Hid (gateR T.data.toList q (gates T.data.toList q x4) = gates T.data.toList (q + 1) x4) := rfl
          go_wp2_with fail
          refine CG.mono ?_
          rintro e w6 ⟨rfl, h6⟩
          have H6 : Hid (LA W0 w6 (g + 1) g T (gates T.data.toList (q + 1) x4)) := h6.as HG.out
          clear h6 HR CG
          go_wp2_with fail
          exact ⟨⟨q + 1, by omega, by go_num, H6.out⟩, by simp [intOf]; omega⟩
        · have hqe : q = 2 := by omega
          subst hqe
          have HR2 : Hid (LA W0 wr (g + 1) g T lr) := HR.out.as HLR.out.symm
          have hb : wr.cell? ⟨g, 2, none⟩ = some (.bool lr.2.bad) := BAt.cell HR2.out.rd 2
          have hp : wr.cell? ⟨g, 1, none⟩ = some (.int .i64 (lr.2.pos : Int)) := BAt.cell HR2.out.rd 1
          have hpp : lr.2.pos ≤ T.size := HR2.out.pos
          have hts := HT.out
          clear HR HLR HX4
          by_cases hbad : lr.2.bad = true
          · rw [hbad] at hb
            have HN : Hid (¬ (lr.2.bad = false ∧ lr.2.pos = T.size)) := by
              rintro ⟨q1, _⟩
              rw [hbad] at q1
              cases q1
            clear hbad hpp
            go_wp2_with fail
            go_ret2
            exact .inr ⟨HN.out, rfl, HY.out _ HR2.out.kept⟩
          · have hbad' : lr.2.bad = false := by simpa using hbad
            rw [hbad'] at hb
            by_cases heq : lr.2.pos = T.size
            · have HN : Hid (lr.2.bad = false ∧ lr.2.pos = T.size) := ⟨hbad', heq⟩
              rw [heq] at hp
              clear hbad hbad' heq hpp
              go_wp2_with fail
              go_ret2
              exact .inl ⟨HN.out.1, HN.out.2, g + 1, rfl, by omega, HR2.out.pat, HY.out _ HR2.out.kept⟩
            · have HN : Hid (¬ (lr.2.bad = false ∧ lr.2.pos = T.size)) := fun hh => heq hh.2
              have hne : ((lr.2.pos : Int) != (T.size : Int)) = true := by
                rw [bne_iff_ne]
                omega
              have hne2 : decide (lr.2.pos = T.size) = false := decide_eq_false heq
              have hne3 : (lr.2.pos == T.size) = false := by rw [beq_eq_false_iff_ne]; exact heq
              clear hbad hbad'
              go_wp2_with fail
              go_ret2
              exact .inr ⟨HN.out, rfl, HY.out _ HR2.out.kept⟩

end Go.Proofs.YtpfahgogjeignabDoor

namespace Go.Proofs.YtpfahgogjeignabDoor
open Go.RowKit

theorem Fit.sav {s : PC} {m : Nat} (h : Fit s m) (hm9 : (m : Int) < 9000000000000000000) : Sav s := by
  have bd := h.bounds
  have e1 := h.ep.em
  have e0 := h.ep.e0
  refine ⟨h.sane.ok, h.sane.who, ⟨bd.2.2.1, bd.2.2.2⟩, ⟨by omega, by omega⟩, fun j hj => ?_, fun i hi => ?_, fun i hi => ?_⟩
  · have := h.link j hj
    exact ⟨by omega, by omega⟩
  · have a := h.til0 i hi
    have c := bd.2.1 i hi
    exact ⟨by omega, by omega⟩
  · have a := h.ep0 i hi
    have c := bd.1 i hi
    exact ⟨by omega, by omega⟩
theorem Fit.writ {s : PC} {m : Nat} (h : Fit s m) : Writ s :=
  ⟨h.sane.ok, h.neat.one, h.sane.room, h.link, h.sane.who, fun hh => ⟨(h.neat.none hh).1, (h.neat.none hh).2, h.ep.so hh⟩, fun hh => ⟨(h.neat.some hh).1, h.sane.gate.g.wt, (h.neat.some hh).2⟩,
    fun i hi => ⟨h.til0 i hi, h.sane.gate.g.til i hi⟩, fun i hi => ⟨h.ep0 i hi, h.ep.ep i hi⟩, h.neat.down, h.rb, fun k hk i hi => h.bare k hk i hi⟩
theorem nums_isi {s : PC} (h : Sav s) : ∀ n, n ∈ nums s → IsI n := by
  have ok := h.ok
  have l0 := ok.lease0
  have l1 := ok.lease1
  have d0 := ok.win0
  have d1 := ok.win1
  have c0 := ok.count0
  have c1 := ok.count1
  have n0 := ok.now0
  have n1 := ok.now1
  have it : ∀ c i, ∀ n, n ∈ tenNums s i c → IsI n := by
    intro c
    induction c with
    | zero => intro i n hn; exact (List.not_mem_nil hn).elim
    | succ c ih =>
      intro i n hn
      rcases List.mem_cons.1 hn with rfl | hn
      · exact ⟨by have := ok.rate0 i; omega, by have := ok.rate1 i; omega⟩
      · rcases List.mem_cons.1 hn with rfl | hn
        · exact ⟨by have := ok.burst0 i; omega, by have := ok.burst1 i; omega⟩
        · exact ih _ n hn
  have ir : ∀ (f : Nat → Int) c i, (∀ k, i ≤ k → k < i + c → IsI (f k)) → ∀ n, n ∈ rowNums f i c → IsI n := by
    intro f c
    induction c with
    | zero => intro i _ n hn; exact (List.not_mem_nil hn).elim
    | succ c ih =>
      intro i hf n hn
      rcases List.mem_cons.1 hn with rfl | hn
      · exact hf i (Nat.le_refl _) (by omega)
      · exact ih (i + 1) (fun k h1 h2 => hf k (by omega) (by omega)) n hn
  have iw : ∀ n, n ∈ witNums s → IsI n := by
    intro n hn
    unfold witNums at hn
    have hw := h.who
    have hwt := h.wtil
    have hwe := h.wep
    have hfl := flagN_isi s.solo
    split at hn
    · have : n = 0 := by simpa using hn
      rw [this]; exact ⟨by omega, by omega⟩
    · simp only [List.mem_cons, List.not_mem_nil, or_false] at hn
      rcases hn with rfl | rfl | rfl | rfl
      · exact ⟨by omega, by omega⟩
      · exact ⟨by omega, by omega⟩
      · exact hwe
      · exact hfl
  have ig : ∀ i, i < 2 → ∀ n, n ∈ gateNums s i → IsI n := by
    intro i hi n hn
    unfold gateNums at hn
    rcases List.mem_append.1 hn with hn | hn
    · exact ir _ _ 0 (fun k _ _ => ⟨by have := ok.lev0 i k; omega, by have := ok.lev1 i k; omega⟩) n hn
    · unfold upNums at hn
      split at hn
      · rcases List.mem_append.1 hn with hn | hn
        · simp only [List.mem_cons, List.not_mem_nil, or_false] at hn
          rcases hn with rfl | rfl | rfl | rfl
          · exact ⟨by omega, by omega⟩
          · exact h.til i hi
          · exact h.ep i hi
          · exact flagN_isi _
        · exact ir _ _ 0 (fun k _ _ => ⟨by have := ok.wn0 i k; omega, by have := ok.wn1 i k; omega⟩) n hn
      · have : n = 0 := by simpa using hn
        rw [this]; exact ⟨by omega, by omega⟩
  intro n hn
  unfold nums headNums at hn
  simp only [List.mem_append, List.mem_cons, List.not_mem_nil, or_false] at hn
  rcases hn with (rfl | rfl | rfl) | hn | rfl | hn | hn | hn | hn
  · exact ⟨by omega, by omega⟩
  · exact ⟨by omega, by omega⟩
  · exact ⟨by omega, by omega⟩
  · exact it _ _ n hn
  · exact ⟨by omega, by omega⟩
  · exact ir _ _ 0 (fun k _ hk => h.link k (by omega)) n hn
  · exact iw n hn
  · exact ig 0 (by omega) n hn
  · exact ig 1 (by omega) n hn
theorem save_len {s : PC} {m : Nat} (h : Fit s m) (hm9 : (m : Int) < 9000000000000000000) : (saveText s).size ≤ 2000000 := by
  rw [Go.Lib.size_eq, saveText_list]
  have a := encL_le (nums s) (nums_isi (h.sav hm9))
  have b := nums_len s h.sane.ok.count1
  omega
theorem save_any (b : Nat) (s : PC) (m : Nat) (h : Fit s m) (hm9 : (m : Int) < 9000000000000000000) (w : World) (hl : Lib w) (hp : PAt w b s) :
    Calls Tryd.prog 6 #[.pointer (some ⟨b, 0, none⟩)] w fun e w' => e = .returned (.string (saveText s)) ∧ Same w w' := save_walk b s (h.sav hm9) w hl hp
theorem load_saved (s : PC) (m : Nat) (h : Fit s m) (hm9 : (m : Int) < 9000000000000000000) (w : World) (hl : Lib w) :
    Calls Tryd.prog 7 #[.string (saveText s)] w fun e w' => ∃ b', e = .returned (.tuple #[.pointer (some ⟨b', 0, none⟩), .int .i64 0]) ∧ w.heap.size ≤ b' ∧ PAt w' b' s ∧ Same w w' := by
  have g := load_good h.writ
  have hz := save_len h hm9
  refine (load_walk (saveText s) (by omega) w hl).mono ?_
  rintro e w' hL
  unfold Loaded at hL
  rw [saveText_list] at hL
  obtain ⟨g1, ⟨⟨⟨⟨ga, gb, gc⟩, gd, ge⟩, gf, gg⟩, gh, gi, gj, gk⟩, gl⟩ := g
  rcases hL with ⟨_, _, b', he, hb, hp, hk⟩ | ⟨hno, _⟩
  · refine ⟨b', he, hb, ?_, hk⟩
    obtain ⟨a1, a2, a3, a4, a5, a6⟩ := gl 0 (by omega)
    obtain ⟨b1, b2, b3, b4, b5, b6⟩ := gl 1 (by omega)
    have e : pcArr (loadR (encL (nums s))).1 = pcArr s := by
      unfold pcArr
      rw [ga, gb, gc, gd, ge, gf, gg 0 (by omega), gg 1 (by omega), gg 2 (by omega), gh, gi, gj, gk, a1, a2, a3, a4, a5, a6, b1, b2, b3, b4, b5, b6]
    unfold PAt at hp ⊢
    rw [← e]
    exact hp
  · refine absurd ?_ hno
    rw [g1, Go.Lib.size_eq, saveText_list]
    exact ⟨rfl, rfl⟩
theorem load_any (T : ByteArray) (hT : T.size ≤ 140737488355328) (w : World) (hl : Lib w) :
    Calls Tryd.prog 7 #[.string T] w fun e w' => (e = .returned (.tuple #[.pointer none, .int .i64 10]) ∧ Same w w') ∨ ∃ b' s', e = .returned (.tuple #[.pointer (some ⟨b', 0, none⟩), .int .i64 0]) ∧ w.heap.size ≤ b' ∧ PAt w' b' s' ∧ s'.Ok ∧ Same w w' := by
  refine (load_walk T hT w hl).mono ?_
  rintro e w' (⟨_, _, b', he, hb, hp, hk⟩ | ⟨_, he, hk⟩)
  · exact .inr ⟨b', _, he, hb, hp, load_ok _, hk⟩
  · exact .inl ⟨he, hk⟩

end Go.Proofs.YtpfahgogjeignabDoor
