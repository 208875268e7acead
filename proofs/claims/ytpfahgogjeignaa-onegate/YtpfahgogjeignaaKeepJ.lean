/-
  The keeper's leased, proper, single.
-/
import Derived.Test.YtpfahgogjeignaaKeepE
import Derived.Test.YtpfahgogjeignaaPlain
set_option linter.unusedVariables false
set_option linter.unusedSimpArgs false
namespace Go.Proofs.Ytpfahgogjeignaa
open Go.RowKit
attribute [local go_sem ↓] Go.wp_at_zero Go.wp_at_succ

set_option maxHeartbeats 400000 in
theorem leased_any (u : Bool) (ep til : Int) (al : Bool) (now : Int) (w : World) :
    Calls Try.prog 10 #[.agg #[.bool u, .int .i64 ep, .int .i64 til, .bool al], .int .i64 now] w fun e w' => e = .returned (.bool (u && decide (now < til))) ∧ Same w w' := by
  cases u
  all_goals
    go_enter Try.func10, Try.ntmps10
    go_wp2
    go_ret
    exact ⟨by simp, Kept.alloc (Kept.refl _ _) _⟩

def properB (ep til : Int) (al : Bool) (i ho we wt : Int) (so : Bool) : Bool := ep == we && decide (til ≤ wt) && (!al || (ho == i && so))

set_option maxHeartbeats 1000000 in
theorem proper_any (u : Bool) (ep til : Int) (al : Bool) (i ho we wt : Int) (so : Bool) (w : World) :
    Calls Try.prog 28 #[.agg #[.bool u, .int .i64 ep, .int .i64 til, .bool al], .int .i64 i, .agg #[.int .i64 ho, .int .i64 we, .int .i64 wt, .bool so]] w fun e w' => e = .returned (.bool (properB ep til al i ho we wt so)) ∧ Same w w' := by
  unfold properB
  cases h1 : (ep == we) <;> cases al <;> cases h2 : (ho == i) <;> cases so <;> by_cases h3 : til ≤ wt
  all_goals
    go_enter Try.func28, Try.ntmps28
    go_wp2
    go_ret
    exact ⟨by simp_all, Kept.alloc (Kept.alloc (Kept.refl _ _) _) _⟩

theorem node_at (b : Nat) (s : PC) (i : Nat) (hi : i < 2) (w : World) (h : PAt w b s) :
    Calls Try.prog 9 #[.pointer (some ⟨b, 0, none⟩), .int .i64 (i : Int)] w fun e' w' => e' = .returned (.tuple #[.agg #[.bool (s.up i), .int .i64 (s.epoch i), .int .i64 (s.til i), .bool (s.alone i)], .int .i64 0]) ∧ Same w w' := by
  have := node_yes b s (i : Int) (by omega) (by omega) w h
  rw [Int.toNat_natCast] at this
  exact this

theorem proper_of {s : PC} (g : Gate s) (i : Nat) (hi : i < 2) (hl : s.now < s.til i) : properB (s.epoch i) (s.til i) (s.alone i) (i : Int) s.holder s.wepoch s.wtil s.solo = true := by
  have h1 := g.hold i hi hl
  have h2 := g.til i hi
  unfold properB
  rw [h1.1, h1.2]
  cases ha : s.alone i
  · simp [h2]
  · rw [g.alone i hi hl ha]
    simp [h2]

set_option maxRecDepth 100000 in
set_option maxHeartbeats 2000000 in
theorem single_any (b : Nat) (s : PC) (g : Gate s) (w : World) (h : PAt w b s) :
    Calls Try.prog 8 #[.pointer (some ⟨b, 0, none⟩), .int .i64 s.now] w fun e w' => e = .returned (.bool true) ∧ Same w w' := by
  have hx0 : s.now < s.til 0 → properB (s.epoch 0) (s.til 0) (s.alone 0) 0 s.holder s.wepoch s.wtil s.solo = true := fun hl => proper_of g 0 (by omega) hl
  have hx1 : s.now < s.til 1 → properB (s.epoch 1) (s.til 1) (s.alone 1) 1 s.holder s.wepoch s.wtil s.solo = true := fun hl => proper_of g 1 (by omega) hl
  have hno : ¬ (s.now < s.til 0 ∧ s.now < s.til 1) := by
    rintro ⟨a, c⟩
    have h1 := (g.hold 0 (by omega) a).1
    have h2 := (g.hold 1 (by omega) c).1
    rw [h1] at h2
    cases h2
  clear g
  have N0 : ∀ w', Same w w' → Calls Try.prog 9 #[.pointer (some ⟨b, 0, none⟩), .int .i64 0] w' fun e' w'' => e' = .returned (.tuple #[.agg #[.bool (s.up 0), .int .i64 (s.epoch 0), .int .i64 (s.til 0), .bool (s.alone 0)], .int .i64 0]) ∧ Same w' w'' := fun w' k => node_at b s 0 (by omega) w' (h.same k)
  have N1 : ∀ w', Same w w' → Calls Try.prog 9 #[.pointer (some ⟨b, 0, none⟩), .int .i64 1] w' fun e' w'' => e' = .returned (.tuple #[.agg #[.bool (s.up 1), .int .i64 (s.epoch 1), .int .i64 (s.til 1), .bool (s.alone 1)], .int .i64 0]) ∧ Same w' w'' := fun w' k => node_at b s 1 (by omega) w' (h.same k)
  have HW := witness_any b s w h
  generalize hu0 : s.up 0 = u0 at *
  generalize hu1 : s.up 1 = u1 at *
  generalize he0 : s.epoch 0 = e0 at *
  generalize he1 : s.epoch 1 = e1 at *
  generalize ht0 : s.til 0 = t0 at *
  generalize ht1 : s.til 1 = t1 at *
  generalize ha0 : s.alone 0 = a0 at *
  generalize ha1 : s.alone 1 = a1 at *
  generalize hho : s.holder = ho at *
  generalize hwe : s.wepoch = we at *
  generalize hwt : s.wtil = wt at *
  generalize hso : s.solo = so at *
  generalize hnw : s.now = now at *
  have HN0 : Hid (∀ w', Same w w' → Calls Try.prog 9 #[.pointer (some ⟨b, 0, none⟩), .int .i64 0] w' fun e' w'' => e' = .returned (.tuple #[.agg #[.bool u0, .int .i64 e0, .int .i64 t0, .bool a0], .int .i64 0]) ∧ Same w' w'') := N0
  have HN1 : Hid (∀ w', Same w w' → Calls Try.prog 9 #[.pointer (some ⟨b, 0, none⟩), .int .i64 1] w' fun e' w'' => e' = .returned (.tuple #[.agg #[.bool u1, .int .i64 e1, .int .i64 t1, .bool a1], .int .i64 0]) ∧ Same w' w'') := N1
  have HWW : Hid (Calls Try.prog 25 #[.pointer (some ⟨b, 0, none⟩)] w fun e' w' => e' = .returned (.agg #[.int .i64 ho, .int .i64 we, .int .i64 wt, .bool so]) ∧ Same w w') := HW
  clear N0 N1 HW hu0 hu1 he0 he1 ht0 ht1 ha0 ha1 hho hwe hwt hso hnw h
  go_enter Try.func8, Try.ntmps8
  go_wp2_with fail
  refine HWW.out.mono ?_
  rintro e w1 ⟨rfl, k1⟩
  have K1 := Kept.alloc k1 (.cells #[.int .i64 ho, .int .i64 we, .int .i64 wt, .bool so] 66)
  have B1 := BAt.made' w1 w1.heap.size rfl 66 #[.int .i64 ho, .int .i64 we, .int .i64 wt, .bool so]
  clear k1
  go_wp2_with fail
  refine (HN0.out _ K1).mono ?_
  rintro e w2 ⟨rfl, k2⟩
  have K2 := Kept.alloc (K1.trans k2) (.cells #[.bool u0, .int .i64 e0, .int .i64 t0, .bool a0] 41)
  have B1 := (B1.kept k2 (fun h => h)).alloc (.cells #[.bool u0, .int .i64 e0, .int .i64 t0, .bool a0] 41)
  have B2 := BAt.made' w2 w2.heap.size rfl 41 #[.bool u0, .int .i64 e0, .int .i64 t0, .bool a0]
  clear k2 K1
  go_wp2_with fail
  refine (HN1.out _ K2).mono ?_
  rintro e w3 ⟨rfl, k3⟩
  have K3 := Kept.alloc (K2.trans k3) (.cells #[.bool u1, .int .i64 e1, .int .i64 t1, .bool a1] 41)
  have B1 := (B1.kept k3 (fun h => h)).alloc (.cells #[.bool u1, .int .i64 e1, .int .i64 t1, .bool a1] 41)
  have B2 := (B2.kept k3 (fun h => h)).alloc (.cells #[.bool u1, .int .i64 e1, .int .i64 t1, .bool a1] 41)
  have B3 := BAt.made' w3 w3.heap.size rfl 41 #[.bool u1, .int .i64 e1, .int .i64 t1, .bool a1]
  clear k3 K2
  have c1 := B1.cell
  have c2 := B2.cell
  have c3 := B3.cell
  go_wp2_with fail
  refine (leased_any u0 e0 t0 a0 now _).mono ?_
  rintro e w4 ⟨rfl, k4⟩
  have K4 := K3.trans k4
  have B1 := B1.kept k4 (fun h => h)
  have B2 := B2.kept k4 (fun h => h)
  have B3 := B3.kept k4 (fun h => h)
  clear k4 K3 c1 c2 c3
  have c1 := B1.cell
  have c2 := B2.cell
  have c3 := B3.cell
  go_wp2_with fail
  refine (leased_any u1 e1 t1 a1 now _).mono ?_
  rintro e w5 ⟨rfl, k5⟩
  have K5 := K4.trans k5
  have B1 := B1.kept k5 (fun h => h)
  have B2 := B2.kept k5 (fun h => h)
  have B3 := B3.kept k5 (fun h => h)
  clear k5 K4 c1 c2 c3
  have c1 := B1.cell
  have c2 := B2.cell
  have c3 := B3.cell
  cases hx : (u0 && decide (now < t0))
  · cases hy : (u1 && decide (now < t1))
    · go_wp2_with fail
      go_ret
      exact ⟨rfl, K5⟩
    · have hp : properB e1 t1 a1 1 ho we wt so = true := hx1 (by simp at hy; exact hy.2)
      have P1 := fun w => proper_any u1 e1 t1 a1 1 ho we wt so w
      rw [hp] at P1
      have HP1 : Hid (∀ w, Calls Try.prog 28 #[.agg #[.bool u1, .int .i64 e1, .int .i64 t1, .bool a1], .int .i64 1, .agg #[.int .i64 ho, .int .i64 we, .int .i64 wt, .bool so]] w fun e w' => e = .returned (.bool true) ∧ Same w w') := P1
      clear P1 hp hx0 hx1 hno
      go_wp2_with fail
      refine (HP1.out _).mono ?_
      rintro e w6 ⟨rfl, k6⟩
      go_wp2_with fail
      go_ret
      exact ⟨rfl, K5.trans k6⟩
  · have hy : (u1 && decide (now < t1)) = false := by
      simp at hx ⊢
      intro _
      have : ¬ now < t1 := fun h => hno ⟨hx.2, h⟩
      omega
    have hp : properB e0 t0 a0 0 ho we wt so = true := hx0 (by simp at hx; exact hx.2)
    have P1 := fun w => proper_any u0 e0 t0 a0 0 ho we wt so w
    rw [hp] at P1
    have HP1 : Hid (∀ w, Calls Try.prog 28 #[.agg #[.bool u0, .int .i64 e0, .int .i64 t0, .bool a0], .int .i64 0, .agg #[.int .i64 ho, .int .i64 we, .int .i64 wt, .bool so]] w fun e w' => e = .returned (.bool true) ∧ Same w w') := P1
    clear P1 hp hx0 hx1 hno
    go_wp2_with fail
    refine (HP1.out _).mono ?_
    rintro e w6 ⟨rfl, k6⟩
    go_wp2_with fail
    go_ret
    exact ⟨rfl, K5.trans k6⟩

end Go.Proofs.Ytpfahgogjeignaa
