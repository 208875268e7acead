/-
  The program's Ask.
-/
import Derived.Test.YtejcdjnngmljnaaProK
set_option linter.unusedVariables false
set_option linter.unusedSimpArgs false
namespace Go.Proofs.Ytejcdjnngmljnaa
open Go.RowKit
attribute [local go_sem] pcg0 pcg1 pcg2 pcg3 pcg4 pcg5 pcg6 pcg7 pcg8 pcg9 pcg10 pcg11 pcg12 pcg13 pcg14 pcg15 pcg16 pcg17 pcg18 pcg19 pcg20 pcg21 pcg22 pcg23 pcg24 pcg25 pcg26 pcg27 pcg28 pcg29 pcg30 pcg31 pcg32 pcg33 pcg34 pcg35 pcg36 pcg37 pcg38 pcg39 pcg40 pcg41 pcg42
attribute [local go_sem] pcgRate pcgBurst pcgLink pcgUp pcgEpoch pcgTil pcgAlone pcgLev pcgWin

set_option maxHeartbeats 1000000 in
theorem ask_wrong (b : Nat) (s : PC) (i k cost : Int) (hw : s.wrong i k cost ≠ 0) (w : World) (h : PAt w b s) :
    Calls Try.prog 28 #[.pointer (some ⟨b, 0, none⟩), .int .i64 i, .int .i64 k, .int .i64 cost] w fun e w' => e = .returned (.tuple #[.int .i64 0, .int .i64 (s.wrong i k cost)]) ∧ Same w w' := by
  have e1 : (s.wrong i k cost != 0) = true := by simp [hw]
  go_enter Try.func28, Try.ntmps28
  go_wp2_with (go_at_call 61; refine (requestError_any b s i k cost _ h).mono ?_; rintro e w' ⟨rfl, rfl⟩)
  go_ret2
  exact ⟨rfl, Kept.refl _ _⟩

set_option maxHeartbeats 1000000 in
theorem ask_down (b : Nat) (s : PC) (i k cost : Int) (hw : s.wrong i k cost = 0) (h0 : 0 ≤ i) (h2 : i < 2) (hu : s.up i.toNat = false) (w : World) (h : PAt w b s) :
    Calls Try.prog 28 #[.pointer (some ⟨b, 0, none⟩), .int .i64 i, .int .i64 k, .int .i64 cost] w fun e w' => e = .returned (.tuple #[.int .i64 0, .int .i64 5]) ∧ Same w w' := by
  have hC := h.cell
  go_enter Try.func28, Try.ntmps28
  go_wp2_with (go_at_call 61; refine (requestError_any b s i k cost _ h).mono ?_; rintro e w' ⟨rfl, rfl⟩; simp only [hw])
  go_ret2
  exact ⟨rfl, Kept.refl _ _⟩

theorem PAt.toWin {w : World} {b : Nat} {s : PC} (h : PAt w b s) (i k v : Int) (h0 : 0 ≤ i) (h2 : i < 2) (k0 : 0 ≤ k) (k4 : k < 4) : PAt (w.setCell ⟨b, 15 + i.toNat * 12 + 8 + k.toNat, none⟩ (.int .i64 v)) b (s.setWin i.toNat k.toNat v) := PAt.of (h.bat.set _ _) (win_set s i k v h0 h2 k0 k4)

set_option maxHeartbeats 1000000 in
theorem ask_yes (b : Nat) (s : PC) (i k cost : Int) (hw : s.wrong i k cost = 0) (h0 : 0 ≤ i) (h2 : i < 2) (hu : s.up i.toNat = true) (k0 : 0 ≤ k) (kc : k < s.count) (c0 : 1 ≤ cost) (c1 : cost ≤ 2000000) (ok : s.Ok) (w : World) (h : PAt w b s) :
    Calls Try.prog 28 #[.pointer (some ⟨b, 0, none⟩), .int .i64 i, .int .i64 k, .int .i64 cost] w fun e w' => e = .returned (.tuple #[.int .i64 (s.asked i.toNat k.toNat cost).1, .int .i64 0]) ∧ PAt w' b (s.asked i.toNat k.toNat cost).2 ∧ Wrote b w w' := by
  have hC := h.cell
  have hF := h.free
  have k4 : k < 4 := by have := ok.count1; omega
  have w0 := ok.wn0 i.toNat k.toNat
  have w1 := ok.wn1 i.toNat k.toNat
  have d0 := ok.win0
  have d1 := ok.win1
  have l0 := ok.lev0 i.toNat k.toNat
  have l1 := ok.lev1 i.toNat k.toNat
  cases hh : s.hasLease i.toNat
  · have e : s.asked i.toNat k.toNat cost = (4, s) := by simp [PC.asked, hh]
    rw [e]
    clear e
    go_enter Try.func28, Try.ntmps28
    go_wp2_with (first | (go_at_call 61; refine (requestError_any b s i k cost _ h).mono ?_; rintro e w' ⟨rfl, rfl⟩; simp only [hw]) | (go_at_call 62; refine (hasLease_any b s i h0 h2 _ h).mono ?_; rintro e w' ⟨rfl, q, rfl⟩))
    go_ret2
    exact ⟨rfl, h, (Kept.refl _ _).drewN _⟩
  · by_cases hc : cost ≤ s.win i.toNat k.toNat
    · have FIN : Hid (s.asked i.toNat k.toNat cost = (5, s.setWin i.toNat k.toNat (s.win i.toNat k.toNat - cost))) := by simp [Hid, PC.asked, hh, hc]
      go_enter Try.func28, Try.ntmps28
      go_wp2_with (first | (go_at_call 61; refine (requestError_any b s i k cost _ h).mono ?_; rintro e w' ⟨rfl, rfl⟩; simp only [hw]) | (go_at_call 62; refine (hasLease_any b s i h0 h2 _ h).mono ?_; rintro e w' ⟨rfl, q, rfl⟩))
      go_ret2
      rw [FIN.out]
      exact ⟨rfl, (PAt.drewN h q).toWin i k _ h0 h2 k0 k4, Wrote.set ((Kept.refl _ _).drewN _) _ _⟩
    · by_cases hd : s.lev i.toNat k.toNat < cost - s.win i.toNat k.toNat
      · have e : s.asked i.toNat k.toNat cost = (6, s) := by simp [PC.asked, hh, hc, hd]
        rw [e]
        clear e
        go_enter Try.func28, Try.ntmps28
        go_wp2_with (first | (go_at_call 61; refine (requestError_any b s i k cost _ h).mono ?_; rintro e w' ⟨rfl, rfl⟩; simp only [hw]) | (go_at_call 62; refine (hasLease_any b s i h0 h2 _ h).mono ?_; rintro e w' ⟨rfl, q, rfl⟩))
        go_ret2
        exact ⟨rfl, h, (Kept.refl _ _).drewN _⟩
      · have hb := reserve_bd (lev := s.lev i.toNat k.toNat) w0 hc c1 d0 d1
        have hr := fun (q : Nat) => reserve_any b s i k (cost - s.win i.toNat k.toNat) h0 h2 k0 kc (by omega) (by omega) ok (w.drewN q) (PAt.drewN h q)
        have e0 : resN (s.lev i.toNat k.toNat) (cost - s.win i.toNat k.toNat) s.window = reserveOf (s.lev i.toNat k.toNat) (s.win i.toNat k.toNat) s.window cost := rfl
        rw [e0] at hr
        have fin : s.asked i.toNat k.toNat cost = if (s.secured i.toNat k.toNat (reserveOf (s.lev i.toNat k.toNat) (s.win i.toNat k.toNat) s.window cost)).1 then (5, ((s.secured i.toNat k.toNat (reserveOf (s.lev i.toNat k.toNat) (s.win i.toNat k.toNat) s.window cost)).2.charged i.toNat k.toNat (reserveOf (s.lev i.toNat k.toNat) (s.win i.toNat k.toNat) s.window cost)).setWin i.toNat k.toNat (reserveOf (s.lev i.toNat k.toNat) (s.win i.toNat k.toNat) s.window cost - (cost - s.win i.toNat k.toNat))) else (7, (s.secured i.toNat k.toNat (reserveOf (s.lev i.toNat k.toNat) (s.win i.toNat k.toNat) s.window cost)).2) := by
          unfold PC.asked
          rw [if_pos hh, if_neg hc, if_neg hd]
        clear e0
        generalize reserveOf (s.lev i.toNat k.toNat) (s.win i.toNat k.toNat) s.window cost = amt at *
        obtain ⟨a0, a1, g0, g1⟩ := hb
        have ok2 := secured_ok ok i.toNat k.toNat amt a0
        have kp := secured_keeps s i.toNat k.toNat amt
        have hs := fun (q : Nat) => secure_any b s i k amt h0 h2 k0 kc a0 a1 ok (w.drewN q) (PAt.drewN h q)
        generalize hsec : s.secured i.toNat k.toNat amt = sec at *
        obtain ⟨did, s2⟩ := sec
        dsimp only at ok2 kp hs fin
        have kc2 : k < s2.count := by rw [kp.2.2]; exact kc
        have hch := fun w' (hp : PAt w' b s2) => charge_any b s2 i k amt h0 h2 k0 kc2 a0 a1 ok2 w' hp
        have HR : Hid (∀ q, Calls Try.prog 63 #[.pointer (some ⟨b, 0, none⟩), .int .i64 i, .int .i64 k, .int .i64 (cost - s.win i.toNat k.toNat)] (w.drewN q) fun e w' => e = .returned (.int .i64 amt) ∧ ∃ q2, w' = (w.drewN q).drewN q2) := hr
        have HSS : Hid (∀ q, Calls Try.prog 64 #[.pointer (some ⟨b, 0, none⟩), .int .i64 i, .int .i64 k, .int .i64 amt] (w.drewN q) fun e w' => e = .returned (.bool did) ∧ PAt w' b s2 ∧ Wrote b (w.drewN q) w') := hs
        have HCH : Hid (∀ w', PAt w' b s2 → Calls Try.prog 65 #[.pointer (some ⟨b, 0, none⟩), .int .i64 i, .int .i64 k, .int .i64 amt] w' fun e w'' => e = .returned (.tuple #[]) ∧ PAt w'' b (s2.charged i.toNat k.toNat amt) ∧ Wrote b w' w'') := hch
        have FIN : Hid (s.asked i.toNat k.toNat cost = if did then (5, (s2.charged i.toNat k.toNat amt).setWin i.toNat k.toNat (amt - (cost - s.win i.toNat k.toNat))) else (7, s2)) := fin
        clear hr hs hch fin hsec ok2 kp
        cases did
        · go_enter Try.func28, Try.ntmps28
          go_wp2_with (first | (go_at_call 61; refine (requestError_any b s i k cost _ h).mono ?_; rintro e w' ⟨rfl, rfl⟩; simp only [hw]) | (go_at_call 62; refine (hasLease_any b s i h0 h2 _ h).mono ?_; rintro e w' ⟨rfl, q, rfl⟩) | (go_at_call 63; refine (HR.out q).mono ?_; rintro e w' ⟨rfl, q2, rfl⟩) | (go_at_call 64; refine (HSS.out (q + q2)).mono ?_; rintro e w3 ⟨rfl, hg3, hk3⟩))
          go_ret2
          rw [FIN.out]
          exact ⟨rfl, hg3, ((Kept.refl _ _).drewN _).trans hk3⟩
        · go_enter Try.func28, Try.ntmps28
          go_wp2_with (first | (go_at_call 61; refine (requestError_any b s i k cost _ h).mono ?_; rintro e w' ⟨rfl, rfl⟩; simp only [hw]) | (go_at_call 62; refine (hasLease_any b s i h0 h2 _ h).mono ?_; rintro e w' ⟨rfl, q, rfl⟩) | (go_at_call 63; refine (HR.out q).mono ?_; rintro e w' ⟨rfl, q2, rfl⟩) | (go_at_call 64; refine (HSS.out (q + q2)).mono ?_; rintro e w3 ⟨rfl, hg3, hk3⟩) | (go_at_call 65; refine (HCH.out _ hg3).mono ?_; rintro e w4 ⟨rfl, hg4, hk4⟩; have hF4 := hg4.free; have hC4 := hg4.cell))
          go_ret2
          rw [FIN.out]
          exact ⟨rfl, hg4.toWin i k _ h0 h2 k0 k4, Wrote.set ((((Kept.refl _ _).drewN _).trans hk3).trans hk4) _ _⟩

end Go.Proofs.Ytejcdjnngmljnaa
