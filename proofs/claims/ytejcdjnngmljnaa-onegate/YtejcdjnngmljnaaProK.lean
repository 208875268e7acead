/-
  The program's securing.
-/
import Derived.Test.YtejcdjnngmljnaaProJ
set_option linter.unusedVariables false
set_option linter.unusedSimpArgs false
namespace Go.Proofs.Ytejcdjnngmljnaa
open Go.RowKit
attribute [local go_sem] pcg0 pcg1 pcg2 pcg3 pcg4 pcg5 pcg6 pcg7 pcg8 pcg9 pcg10 pcg11 pcg12 pcg13 pcg14 pcg15 pcg16 pcg17 pcg18 pcg19 pcg20 pcg21 pcg22 pcg23 pcg24 pcg25 pcg26 pcg27 pcg28 pcg29 pcg30 pcg31 pcg32 pcg33 pcg34 pcg35 pcg36 pcg37 pcg38 pcg39 pcg40 pcg41 pcg42
attribute [local go_sem] pcgRate pcgBurst pcgLink pcgUp pcgEpoch pcgTil pcgAlone pcgLev pcgWin

set_option maxHeartbeats 1000000 in
theorem reserve_any (b : Nat) (s : PC) (i k n : Int) (h0 : 0 ≤ i) (h2 : i < 2) (k0 : 0 ≤ k) (kc : k < s.count) (n0 : 0 ≤ n) (n1 : n ≤ 2000000) (ok : s.Ok) (w : World) (h : PAt w b s) :
    Calls Try.prog 63 #[.pointer (some ⟨b, 0, none⟩), .int .i64 i, .int .i64 k, .int .i64 n] w fun e w' => e = .returned (.int .i64 (resN (s.lev i.toNat k.toNat) n s.window)) ∧ ∃ q, w' = w.drewN q := by
  have hC := h.cell
  have k4 : k < 4 := by have := ok.count1; omega
  have d0 := ok.win0
  have d1 := ok.win1
  by_cases hl : s.lev i.toNat k.toNat < n + s.window
  · have HE : Hid (resN (s.lev i.toNat k.toNat) n s.window = n) := if_pos hl
    go_enter Try.func63, Try.ntmps63
    go_wp2
    go_quiet (fail)
    go_wp2
    go_ret
    exact ⟨by rw [HE.out]; rfl, _, rfl⟩
  · have HE : Hid (resN (s.lev i.toNat k.toNat) n s.window = n + s.window) := if_neg hl
    go_enter Try.func63, Try.ntmps63
    go_wp2
    go_quiet (fail)
    go_wp2
    go_ret
    exact ⟨by rw [HE.out]; rfl, _, rfl⟩

theorem solo_set (s : PC) : (pcArr s).setIfInBounds 42 (.bool true) = pcArr s.soloed := rfl
theorem alone_set (s : PC) (i : Int) (h0 : 0 ≤ i) (h : i < 2) : (pcArr s).setIfInBounds (15 + i.toNat * 12 + 3) (.bool true) = pcArr (s.aloned i.toNat) := by
  rcases lt2 h0 h with rfl | rfl <;> rfl
theorem PAt.toSolo {w : World} {b : Nat} {s : PC} (h : PAt w b s) : PAt (w.setCell ⟨b, 42, none⟩ (.bool true)) b s.soloed := PAt.of (h.bat.set _ _) (solo_set s)
theorem PAt.toAlone {w : World} {b : Nat} {s : PC} (h : PAt w b s) (i : Int) (h0 : 0 ≤ i) (h2 : i < 2) : PAt (w.setCell ⟨b, 15 + i.toNat * 12 + 3, none⟩ (.bool true)) b (s.aloned i.toNat) := PAt.of (h.bat.set _ _) (alone_set s i h0 h2)

set_option maxHeartbeats 1000000 in
theorem goAlone_any (b : Nat) (s : PC) (i : Int) (h0 : 0 ≤ i) (h2 : i < 2) (w : World) (h : PAt w b s) :
    Calls Try.prog 88 #[.pointer (some ⟨b, 0, none⟩), .int .i64 i] w fun e w' => e = .returned (.bool (s.second i.toNat).1) ∧ PAt w' b (s.second i.toNat).2 ∧ Wrote b w w' := by
  have hC := h.cell
  have hF := h.free
  have hi := lt2 h0 h2
  unfold PC.second
  dsimp only
  cases ha : s.arrives i.toNat 2
  · have hw : s.answered i.toNat 2 = false := by simp [PC.answered, ha]
    simp only [hw, Bool.false_eq_true, if_false]
    go_enter Try.func88, Try.ntmps88
    go_wp2_with (go_at_call 57; refine (message_any b s i 2 hi (.inl rfl) _ h).mono ?_; rintro e w' ⟨rfl, n, rfl⟩; simp only [show (2 : Int).toNat = 2 from rfl])
    go_ret
    exact ⟨rfl, h, (Kept.refl _ _).drewN _⟩
  · cases hw : s.answered i.toNat 2
    · simp only [Bool.false_eq_true, if_false, if_true]
      go_enter Try.func88, Try.ntmps88
      go_wp2_with (go_at_call 57; refine (message_any b s i 2 hi (.inl rfl) _ h).mono ?_; rintro e w' ⟨rfl, n, rfl⟩; simp only [show (2 : Int).toNat = 2 from rfl])
      go_ret
      exact ⟨rfl, (PAt.drewN h n).toSolo, Wrote.set ((Kept.refl _ _).drewN _) _ _⟩
    · simp only [if_true]
      go_enter Try.func88, Try.ntmps88
      go_wp2_with (go_at_call 57; refine (message_any b s i 2 hi (.inl rfl) _ h).mono ?_; rintro e w' ⟨rfl, n, rfl⟩; simp only [show (2 : Int).toNat = 2 from rfl])
      go_ret
      exact ⟨rfl, (PAt.drewN h n).toSolo.toAlone i h0 h2, Wrote.set (Wrote.set ((Kept.refl _ _).drewN _) _ _) _ _⟩

set_option maxHeartbeats 1000000 in
theorem secure_any (b : Nat) (s : PC) (i k amt : Int) (h0 : 0 ≤ i) (h2 : i < 2) (k0 : 0 ≤ k) (kc : k < s.count) (a0 : 0 ≤ amt) (a1 : amt ≤ 3000000) (ok : s.Ok) (w : World) (h : PAt w b s) :
    Calls Try.prog 64 #[.pointer (some ⟨b, 0, none⟩), .int .i64 i, .int .i64 k, .int .i64 amt] w fun e w' => e = .returned (.bool (s.secured i.toNat k.toNat amt).1) ∧ PAt w' b (s.secured i.toNat k.toNat amt).2 ∧ Wrote b w w' := by
  have hC := h.cell
  have hi := lt2 h0 h2
  have ej : (1 - i).toNat = 1 - i.toNat := by omega
  have hm := message_any b s i (1 - i) hi (.inr rfl) w h
  have hc : ∀ n, Calls Try.prog 65 #[.pointer (some ⟨b, 0, none⟩), .int .i64 (1 - i), .int .i64 k, .int .i64 amt] (w.drewN n) fun e w' => e = .returned (.tuple #[]) ∧ PAt w' b (s.charged (1 - i).toNat k.toNat amt) ∧ Wrote b (w.drewN n) w' := fun n => charge_any b s (1 - i) k amt (by omega) (by omega) k0 kc a0 a1 ok _ (PAt.drewN h n)
  rw [ej] at hm hc
  have HM : Hid (Calls Try.prog 57 #[.pointer (some ⟨b, 0, none⟩), .int .i64 i, .int .i64 (1 - i)] w fun e' w' => e' = .returned (.tuple #[.bool (s.arrives i.toNat (1 - i.toNat)), .bool (s.answered i.toNat (1 - i.toNat))]) ∧ ∃ n, w' = w.drewN n) := hm
  have HC : Hid (∀ n, Calls Try.prog 65 #[.pointer (some ⟨b, 0, none⟩), .int .i64 (1 - i), .int .i64 k, .int .i64 amt] (w.drewN n) fun e w' => e = .returned (.tuple #[]) ∧ PAt w' b (s.charged (1 - i.toNat) k.toNat amt) ∧ Wrote b (w.drewN n) w') := hc
  clear hm hc ej
  cases hal : s.alone i.toNat
  · cases har : s.arrives i.toNat (1 - i.toNat)
    · have han : s.answered i.toNat (1 - i.toNat) = false := by simp [PC.answered, har]
      have FIN : Hid (s.secured i.toNat k.toNat amt = s.second i.toNat) := by simp [Hid, PC.secured, hal, har, han]
      go_enter Try.func64, Try.ntmps64
      go_wp2_with (first | (go_at_call 87; refine (other_any i h0 h2 _).mono ?_; rintro e w' ⟨rfl, rfl⟩) | (go_at_call 57; refine HM.out.mono ?_; rintro e w' ⟨rfl, n, rfl⟩) | (go_at_call 88; refine (goAlone_any b s i h0 h2 _ (PAt.drewN h n)).mono ?_; rintro e w3 ⟨rfl, hg, hk⟩))
      go_ret
      rw [FIN.out]
      exact ⟨rfl, hg, ((Kept.refl _ _).drewN _).trans hk⟩
    · cases han : s.answered i.toNat (1 - i.toNat)
      · have FIN : Hid (s.secured i.toNat k.toNat amt = (s.charged (1 - i.toNat) k.toNat amt).second i.toNat) := by simp [Hid, PC.secured, hal, har, han]
        go_enter Try.func64, Try.ntmps64
        go_wp2_with (first | (go_at_call 87; refine (other_any i h0 h2 _).mono ?_; rintro e w' ⟨rfl, rfl⟩) | (go_at_call 57; refine HM.out.mono ?_; rintro e w' ⟨rfl, n, rfl⟩) | (go_at_call 65; refine (HC.out n).mono ?_; rintro e w2 ⟨rfl, hg2, hk2⟩) | (go_at_call 88; refine (goAlone_any b (s.charged (1 - i.toNat) k.toNat amt) i h0 h2 _ hg2).mono ?_; rintro e w3 ⟨rfl, hg, hk⟩))
        go_ret
        rw [FIN.out]
        exact ⟨rfl, hg, (((Kept.refl _ _).drewN _).trans hk2).trans hk⟩
      · have FIN : Hid (s.secured i.toNat k.toNat amt = (true, s.charged (1 - i.toNat) k.toNat amt)) := by simp [Hid, PC.secured, hal, han]
        go_enter Try.func64, Try.ntmps64
        go_wp2_with (first | (go_at_call 87; refine (other_any i h0 h2 _).mono ?_; rintro e w' ⟨rfl, rfl⟩) | (go_at_call 57; refine HM.out.mono ?_; rintro e w' ⟨rfl, n, rfl⟩) | (go_at_call 65; refine (HC.out n).mono ?_; rintro e w2 ⟨rfl, hg2, hk2⟩))
        go_ret
        rw [FIN.out]
        exact ⟨rfl, hg2, ((Kept.refl _ _).drewN _).trans hk2⟩
  · have FIN : Hid (s.secured i.toNat k.toNat amt = (true, s)) := by simp [Hid, PC.secured, hal]
    go_enter Try.func64, Try.ntmps64
    go_wp2_with fail
    go_ret
    rw [FIN.out]
    exact ⟨rfl, h, Kept.refl _ _⟩

end Go.Proofs.Ytejcdjnngmljnaa
