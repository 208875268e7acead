/-
  Once all works again: the keeper's healed and asked.
-/
import Derived.Test.YtpfahgogjeignabWaitA
set_option linter.unusedVariables false
set_option linter.unusedSimpArgs false
namespace Go.Proofs.Ytpfahgogjeignab
open Go.RowKit
attribute [local go_sem ↓] Go.wp_at_zero Go.wp_at_succ

theorem ClockAt.cell0 {w : World} {t : Nat} {now : Int} (h : ClockAt w t now) : w.cell? ⟨t, 0, none⟩ = some (.int .i64 now) := BAt.cell h 0
theorem ClockAt.free0 {w : World} {t : Nat} {now : Int} (h : ClockAt w t now) : w.frozen? ⟨t, 0, none⟩ = false := BAt.free h 0
theorem ClockAt.kept {S : Nat → Prop} {w w' : World} {t : Nat} {now : Int} (h : ClockAt w t now) (k : Kept S w w') (hs : ¬ S t) : ClockAt w' t now := BAt.kept h k hs
theorem ClockAt.put {w : World} {t : Nat} {now : Int} (h : ClockAt w t now) (x : Int) : ClockAt (w.setCell ⟨t, 0, none⟩ (.int .i64 x)) t x := BAt.set h 0 _

/-- All is up, all links work: five calls. -/
theorem mend_calls (b : Nat) (s : PC) (w : World) (h : PAt w b s) :
    Calls Try.prog 21 #[.pointer (some ⟨b, 0, none⟩), .int .i64 0] w fun e w1 => (∃ x, e = .returned (.int .i64 x)) ∧ Wrote b w w1 ∧
      Calls Try.prog 21 #[.pointer (some ⟨b, 0, none⟩), .int .i64 1] w1 fun e w2 => (∃ x, e = .returned (.int .i64 x)) ∧ Wrote b w1 w2 ∧
        Calls Try.prog 22 #[.pointer (some ⟨b, 0, none⟩), .int .i64 0, .int .i64 1, .int .i64 0] w2 fun e w3 => (∃ x, e = .returned (.int .i64 x)) ∧ Wrote b w2 w3 ∧
          Calls Try.prog 22 #[.pointer (some ⟨b, 0, none⟩), .int .i64 0, .int .i64 2, .int .i64 0] w3 fun e w4 => (∃ x, e = .returned (.int .i64 x)) ∧ Wrote b w3 w4 ∧
            Calls Try.prog 22 #[.pointer (some ⟨b, 0, none⟩), .int .i64 1, .int .i64 2, .int .i64 0] w4 fun e w5 => (∃ x, e = .returned (.int .i64 x)) ∧ Wrote b w4 w5 ∧ PAt w5 b s.mend := by
  refine (start_does s b 0 w h).mono ?_
  rintro e w1 ⟨rfl, h1, k1⟩
  refine ⟨⟨_, rfl⟩, k1, ?_⟩
  refine (start_does _ b 1 w1 h1).mono ?_
  rintro e w2 ⟨rfl, h2, k2⟩
  refine ⟨⟨_, rfl⟩, k2, ?_⟩
  refine (link_does _ b 0 1 0 w2 h2).mono ?_
  rintro e w3 ⟨rfl, h3, k3⟩
  refine ⟨⟨_, rfl⟩, k3, ?_⟩
  refine (link_does _ b 0 2 0 w3 h3).mono ?_
  rintro e w4 ⟨rfl, h4, k4⟩
  refine ⟨⟨_, rfl⟩, k4, ?_⟩
  refine (link_does _ b 1 2 0 w4 h4).mono ?_
  rintro e w5 ⟨rfl, h5, k5⟩
  exact ⟨⟨_, rfl⟩, k5, h5⟩

set_option maxRecDepth 100000 in
set_option maxHeartbeats 1000000 in
theorem healed_late (b t : Nat) (s : PC) (hs : Sane s) (hbt : b ≠ t) (hl : 1000000000000 - s.lease < s.now) (w : World) (hp : PAt w b s) (hc : ClockAt w t s.now) :
    Calls Try.prog 6 #[.pointer (some ⟨b, 0, none⟩), .pointer (some ⟨t, 0, none⟩), .int .i64 s.lease] w fun e w' => e = .returned (.int .i64 (-2)) ∧ Kept (fun q => q = b ∨ q = t) w w' := by
  have M := mend_calls b s w hp
  have l0 := hs.ok.lease0
  have l1 := hs.ok.lease1
  clear hs hp
  generalize s.lease = le at *
  generalize s.now = now at *
  go_enter Try.func6, Try.ntmps6
  go_wp2_with fail
  refine M.mono ?_
  clear M
  rintro e w1 ⟨⟨x1, rfl⟩, k1, M⟩
  go_wp2_with fail
  refine M.mono ?_
  clear M
  rintro e w2 ⟨⟨x2, rfl⟩, k2, M⟩
  go_wp2_with fail
  refine M.mono ?_
  clear M
  rintro e w3 ⟨⟨x3, rfl⟩, k3, M⟩
  go_wp2_with fail
  refine M.mono ?_
  clear M
  rintro e w4 ⟨⟨x4, rfl⟩, k4, M⟩
  go_wp2_with fail
  refine M.mono ?_
  clear M
  rintro e w5 ⟨⟨x5, rfl⟩, k5, hp5⟩
  have kk := (((k1.trans k2).trans k3).trans k4).trans k5
  have hc5 := hc.kept kk (Ne.symm hbt)
  have c5 := hc5.cell0
  have KK : Hid (Wrote b w w5) := kk
  clear k1 k2 k3 k4 k5 kk hc hc5 hp5
  go_wp2_with fail
  go_ret
  exact ⟨rfl, KK.out.mono (fun q e => Or.inl e)⟩

set_option maxRecDepth 100000 in
set_option maxHeartbeats 2000000 in
theorem healed_yes (b t : Nat) (s : PC) (hs : Sane s) (hbt : b ≠ t) (hl : s.now ≤ 1000000000000 - s.lease) (w : World) (hp : PAt w b s) (hc : ClockAt w t s.now) :
    Calls Try.prog 6 #[.pointer (some ⟨b, 0, none⟩), .pointer (some ⟨t, 0, none⟩), .int .i64 s.lease] w fun e w' => ∃ (i : Nat) (s' : PC), e = .returned (.int .i64 i) ∧ Led s' i ∧ s'.fix = s.fix ∧ PAt w' b s' ∧ ClockAt w' t s'.now ∧ Kept (fun q => q = b ∨ q = t) w w' := by
  have M := mend_calls b s w hp
  have l0 := hs.ok.lease0
  have l1 := hs.ok.lease1
  have n0 := hs.ok.now0
  have n1 := hs.ok.now1
  obtain ⟨m1, m2, m3, m4⟩ := mend_is s
  obtain ⟨ms, mf⟩ := mend_sane hs
  have HPS : Hid (∀ W, PAt W b s.mend → Calls Try.prog 17 #[.pointer (some ⟨b, 0, none⟩), .int .i64 s.lease] W fun e' w' => e' = .returned (.int .i64 0) ∧ PAt w' b (s.mend.passed s.lease) ∧ Wrote b W w') := fun W hW => pass_yes b s.mend s.lease (by omega) (by omega) ms.ok W hW
  have hp6 : Sane (s.mend.passed s.lease) := sane_passed ms s.lease (by omega) (by omega)
  have LED : Hid (((s.mend.passed s.lease).campaigned 0).1 = 1 ∧ Led ((s.mend.passed s.lease).campaigned 0).2 0 ∨ (s.mend.passed s.lease).campaigned 0 = (2, s.mend.passed s.lease) ∧ ((s.mend.passed s.lease).campaigned 1).1 = 1 ∧ Led ((s.mend.passed s.lease).campaigned 1).2 1) := led_of hs hl
  have FX : Hid (∀ i, ((s.mend.passed s.lease).campaigned i).2.fix = s.fix) := fun i => (campaigned_fx _ i).trans mf
  have hn6 : (s.mend.passed s.lease).now = s.now + s.lease := by
    show s.mend.now + s.lease = _
    rw [m3]
  have HC0 : Hid (∀ W, PAt W b (s.mend.passed s.lease) → Calls Try.prog 16 #[.pointer (some ⟨b, 0, none⟩), .int .i64 0] W fun e' w' => e' = .returned (.tuple #[.int .i64 ((s.mend.passed s.lease).campaigned 0).1, .int .i64 0]) ∧ PAt w' b ((s.mend.passed s.lease).campaigned 0).2 ∧ Wrote b W w') := fun W hW => campaign_yes b (s.mend.passed s.lease) 0 (by omega) (by omega) (m1 0 (by omega)) hp6.ok W hW
  have HC1 : Hid (∀ W, PAt W b (s.mend.passed s.lease) → Calls Try.prog 16 #[.pointer (some ⟨b, 0, none⟩), .int .i64 1] W fun e' w' => e' = .returned (.tuple #[.int .i64 ((s.mend.passed s.lease).campaigned 1).1, .int .i64 0]) ∧ PAt w' b ((s.mend.passed s.lease).campaigned 1).2 ∧ Wrote b W w') := fun W hW => campaign_yes b (s.mend.passed s.lease) 1 (by omega) (by omega) (m1 1 (by omega)) hp6.ok W hW
  have HN : Hid (∀ i, ((s.mend.passed s.lease).campaigned i).2.now = s.now + s.lease) := fun i => (campaigned_now _ i).trans hn6
  clear m1 m2 m3 m4 ms mf hs hp hp6
  generalize s.mend.passed s.lease = s6 at *
  generalize s.mend = s5 at *
  generalize s.fix = fx at *
  generalize s.lease = le at *
  generalize s.now = now at *
  go_enter Try.func6, Try.ntmps6
  go_wp2_with fail
  refine M.mono ?_
  clear M
  rintro e w1 ⟨⟨x1, rfl⟩, k1, M⟩
  go_wp2_with fail
  refine M.mono ?_
  clear M
  rintro e w2 ⟨⟨x2, rfl⟩, k2, M⟩
  go_wp2_with fail
  refine M.mono ?_
  clear M
  rintro e w3 ⟨⟨x3, rfl⟩, k3, M⟩
  go_wp2_with fail
  refine M.mono ?_
  clear M
  rintro e w4 ⟨⟨x4, rfl⟩, k4, M⟩
  go_wp2_with fail
  refine M.mono ?_
  clear M
  rintro e w5 ⟨⟨x5, rfl⟩, k5, hp5⟩
  have kk := (((k1.trans k2).trans k3).trans k4).trans k5
  have hc5 := hc.kept kk (Ne.symm hbt)
  have c5 := hc5.cell0
  have hle : decide (now > 1000000000000 - le) = false := decide_eq_false (by omega)
  clear k1 k2 k3 k4 k5 hc
  have KK : Hid (Wrote b w w5) := kk
  clear kk
  go_wp2_with fail
  refine (HPS.out _ hp5).mono ?_
  rintro e w6 ⟨rfl, hp6, k6⟩
  have hc6 := hc5.kept k6 (Ne.symm hbt)
  have c6 := hc6.cell0
  have f6 := hc6.free0
  have kk6 : Kept (fun q => q = b ∨ q = t) w w6 := (KK.out.trans k6).mono (fun q e => Or.inl e)
  have hp7 : PAt (w6.setCell ⟨t, 0, none⟩ (.int .i64 (now + le))) b s6 := PAt.far hp6 _ hbt _
  have hc7 : ClockAt (w6.setCell ⟨t, 0, none⟩ (.int .i64 (now + le))) t (now + le) := hc6.put _
  have kk7 := kk6.setCell ⟨t, 0, none⟩ (.inl (.inr rfl)) (.int .i64 (now + le))
  clear hp5 hc5 c5 k6 hp6 hc6 kk6 HPS KK
  go_wp2_with fail
  generalize w6.setCell ⟨t, 0, none⟩ (.int .i64 (now + le)) = W7 at *
  have HP7 : Hid (PAt W7 b s6) := hp7
  have HC7 : Hid (ClockAt W7 t (now + le)) := hc7
  have KK7 : Hid (Kept (fun q => q = b ∨ q = t) w W7) := kk7
  clear hp7 hc7 kk7 c6 f6
  go_loopw [8] (fun x wr => ∃ i : Nat, i < 2 ∧ x = .int .i64 i ∧ (i = 1 → s6.campaigned 0 = (2, s6)) ∧ PAt wr b s6 ∧ ClockAt wr t (now + le) ∧ Kept (fun q => q = b ∨ q = t) w wr) (fun x _ => 2 - (intOf x).toNat)
  case atStart => exact ⟨0, by omega, rfl, (fun h => absurd h (by omega)), HP7.out, HC7.out, KK7.out⟩
  case round =>
    obtain ⟨i, hi, rfl, hi1, hp, hc, hk⟩ := hrel
    clear HP7 HC7 KK7
    have HI1 : Hid (i = 1 → s6.campaigned 0 = (2, s6)) := hi1
    clear hi1
    rcases lt2n hi with rfl | rfl
    · rcases LED.out with ⟨a1, a2⟩ | ⟨a0, a1, a2⟩
      · go_wp2_with fail
        refine (HC0.out _ hp).mono ?_
        rintro e w8 ⟨rfl, hp8, k8⟩
        have hc8 := hc.kept k8 (Ne.symm hbt)
        rw [← HN.out 0] at hc8
        have kk8 := hk.trans (k8.mono (fun q e => Or.inl e))
        rw [a1]
        go_wp2_with fail
        go_ret
        exact ⟨0, _, rfl, a2, FX.out 0, hp8, hc8, kk8⟩
      · go_wp2_with fail
        refine (HC0.out _ hp).mono ?_
        rintro e w8 ⟨rfl, hp8, k8⟩
        have hc8 := hc.kept k8 (Ne.symm hbt)
        have kk8 := hk.trans (k8.mono (fun q e => Or.inl e))
        rw [a0] at hp8 ⊢
        dsimp only at hp8 ⊢
        go_wp2_with fail
        exact ⟨⟨1, by omega, rfl, fun _ => a0, hp8, hc8, kk8⟩, by simp [intOf]⟩
    · rcases LED.out with ⟨a1, a2⟩ | ⟨a0, a1, a2⟩
      · exfalso
        have := HI1.out rfl
        rw [this] at a1
        cases a1
      · go_wp2_with fail
        refine (HC1.out _ hp).mono ?_
        rintro e w8 ⟨rfl, hp8, k8⟩
        have hc8 := hc.kept k8 (Ne.symm hbt)
        rw [← HN.out 1] at hc8
        have kk8 := hk.trans (k8.mono (fun q e => Or.inl e))
        rw [a1]
        go_wp2_with fail
        go_ret
        exact ⟨1, _, rfl, a2, FX.out 1, hp8, hc8, kk8⟩

set_option maxRecDepth 100000 in
set_option maxHeartbeats 1000000 in
theorem asked_any (b : Nat) (s : PC) (i k : Nat) (x ticks cost want : Int) (h : Held s i) (hi : i < 2) (t0 : 0 ≤ ticks) (t1 : ticks ≤ 1000000000000 - s.now) (hk : (k : Int) < s.count) (c0 : 1 ≤ cost) (c1 : cost ≤ 2000000) (hv : ((s.later ticks i).asked i k cost).1 = want) (w : World) (hp : PAt w b s) :
    Calls Try.prog 9 #[.pointer (some ⟨b, 0, none⟩), .int .i64 ticks, .agg #[.int .i64 x, .int .i64 i, .int .i64 k, .int .i64 cost], .int .i64 want] w fun e w' => e = .returned (.bool true) ∧ PAt w' b ((s.later ticks i).asked i k cost).2 ∧ Wrote b w w' := by
  have hlt := hp.lt
  have hpa := PAt.alloc hp (.cells #[.int .i64 x, .int .i64 i, .int .i64 k, .int .i64 cost] 33)
  have hoa := BAt.made' w w.heap.size rfl 33 #[.int .i64 x, .int .i64 i, .int .i64 k, .int .i64 cost]
  have hka : Wrote b w (w.alloc (.cells #[.int .i64 x, .int .i64 i, .int .i64 k, .int .i64 cost] 33)) := Kept.alloc (Kept.refl _ _) _
  obtain ⟨a1, a2, a3, _, a5, _⟩ := later_is h hi ticks t0 t1 k hk cost c0 c1
  have hps := held_passed h ticks t0 t1
  have HP : Hid (∀ W, PAt W b s → Calls Try.prog 17 #[.pointer (some ⟨b, 0, none⟩), .int .i64 ticks] W fun e' w' => e' = .returned (.int .i64 0) ∧ PAt w' b (s.passed ticks) ∧ Wrote b W w') := fun W hW => pass_yes b s ticks t0 t1 h.ok W hW
  have HC : Hid (∀ W, PAt W b (s.passed ticks) → Calls Try.prog 16 #[.pointer (some ⟨b, 0, none⟩), .int .i64 (i : Int)] W fun e' w' => e' = .returned (.tuple #[.int .i64 1, .int .i64 0]) ∧ PAt w' b (s.later ticks i) ∧ Wrote b W w') := by
    intro W hW
    have := campaign_yes b (s.passed ticks) (i : Int) (by omega) (by omega) (by rw [Int.toNat_natCast]; exact hps.up i hi) hps.ok W hW
    rw [a1] at this
    exact this
  have hct : (s.later ticks i).count = s.count := (fix_count a5).1
  have HA : Hid (∀ W, PAt W b (s.later ticks i) → Calls Try.prog 13 #[.pointer (some ⟨b, 0, none⟩), .int .i64 (i : Int), .int .i64 (k : Int), .int .i64 cost] W fun e' w' => e' = .returned (.tuple #[.int .i64 want, .int .i64 0]) ∧ PAt w' b ((s.later ticks i).asked i k cost).2 ∧ Wrote b W w') := by
    intro W hW
    have hwr : (s.later ticks i).wrong (i : Int) (k : Int) cost = 0 := by
      unfold PC.wrong
      rw [if_pos (by rcases lt2n hi with rfl | rfl <;> rfl), if_pos (by simp [hasTenantB]; omega), if_pos ⟨c0, c1⟩]
    have := ask_yes b (s.later ticks i) (i : Int) (k : Int) cost hwr (by omega) (by omega) (by rw [Int.toNat_natCast]; exact a2.up i hi) (by omega) (by omega) c0 c1 a2.ok W hW
    rw [Int.toNat_natCast, Int.toNat_natCast, hv] at this
    exact this
  generalize ((s.later ticks i).asked i k cost).2 = s3 at *
  generalize s.later ticks i = s2 at *
  generalize s.passed ticks = s1 at *
  clear a1 a2 a3 a5 hps hct hv h hp
  go_enter Try.func9, Try.ntmps9
  go_wp2_with fail
  refine (HP.out _ hpa).mono ?_
  rintro e w1 ⟨rfl, hp1, k1⟩
  have ho1 := hoa.kept k1 (by omega)
  have hk1 := hka.trans k1
  have e1 : w1.cell? ⟨w.heap.size, 1, none⟩ = some (.int .i64 i) := ho1.cell 1
  clear hka hpa hoa k1
  go_wp2_with fail
  refine (HC.out _ hp1).mono ?_
  rintro e w2 ⟨rfl, hp2, k2⟩
  have ho2 := ho1.kept k2 (by omega)
  have hk2 := hk1.trans k2
  have e1' : w2.cell? ⟨w.heap.size, 1, none⟩ = some (.int .i64 i) := ho2.cell 1
  have e2' : w2.cell? ⟨w.heap.size, 2, none⟩ = some (.int .i64 k) := ho2.cell 2
  have e3' : w2.cell? ⟨w.heap.size, 3, none⟩ = some (.int .i64 cost) := ho2.cell 3
  clear hk1 hp1 ho1 k2 e1
  go_wp2_with fail
  refine (HA.out _ hp2).mono ?_
  rintro e w3 ⟨rfl, hp3, k3⟩
  go_wp2_with fail
  go_ret
  exact ⟨rfl, hp3, hk2.trans k3⟩

end Go.Proofs.Ytpfahgogjeignab
