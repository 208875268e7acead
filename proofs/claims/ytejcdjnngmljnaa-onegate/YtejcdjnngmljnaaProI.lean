/-
  The program's Ask: its errors, who has a lease, how a level is charged.
-/
import Derived.Test.YtejcdjnngmljnaaProC
import Derived.Test.YtejcdjnngmljnaaProE
set_option linter.unusedVariables false
set_option linter.unusedSimpArgs false
namespace Go.Proofs.Ytejcdjnngmljnaa
open Go.RowKit
attribute [local go_sem] pcg0 pcg1 pcg2 pcg3 pcg4 pcg5 pcg6 pcg7 pcg8 pcg9 pcg10 pcg11 pcg12 pcg13 pcg14 pcg15 pcg16 pcg17 pcg18 pcg19 pcg20 pcg21 pcg22 pcg23 pcg24 pcg25 pcg26 pcg27 pcg28 pcg29 pcg30 pcg31 pcg32 pcg33 pcg34 pcg35 pcg36 pcg37 pcg38 pcg39 pcg40 pcg41 pcg42
attribute [local go_sem] pcgRate pcgBurst pcgLink pcgUp pcgEpoch pcgTil pcgAlone pcgLev pcgWin

def PC.hasLease (s : PC) (i : Nat) : Bool := s.up i && decide (s.now < s.til i)

set_option maxHeartbeats 400000 in
theorem hasLease_any (b : Nat) (s : PC) (i : Int) (h0 : 0 ≤ i) (h2 : i < 2) (w : World) (h : PAt w b s) :
    Calls Try.prog 62 #[.pointer (some ⟨b, 0, none⟩), .int .i64 i] w fun e w' => e = .returned (.bool (s.hasLease i.toNat)) ∧ ∃ n, w' = w.drewN n := by
  have hC := h.cell
  unfold PC.hasLease
  cases hu : s.up i.toNat
  all_goals
    go_enter Try.func62, Try.ntmps62
    go_wp2
    go_quiet (fail)
    go_wp2
    go_ret
    exact ⟨by simp [hu], _, rfl⟩

set_option maxHeartbeats 400000 in
theorem other_any (i : Int) (h0 : 0 ≤ i) (h2 : i < 2) (w : World) :
    Calls Try.prog 87 #[.int .i64 i] w fun e w' => e = .returned (.int .i64 (1 - i)) ∧ w' = w := by
  go_enter Try.func87, Try.ntmps87
  go_wp2
  go_ret
  exact ⟨by go_num, rfl⟩

/-- What is wrong with a request. -/
def PC.wrong (s : PC) (i k cost : Int) : Int := if isNodeB i then (if hasTenantB s k then (if 1 ≤ cost ∧ cost ≤ 2000000 then 0 else 9) else 2) else 4

set_option maxHeartbeats 1000000 in
theorem requestError_any (b : Nat) (s : PC) (i k cost : Int) (w : World) (h : PAt w b s) :
    Calls Try.prog 61 #[.pointer (some ⟨b, 0, none⟩), .int .i64 i, .int .i64 k, .int .i64 cost] w fun e w' => e = .returned (.int .i64 (s.wrong i k cost)) ∧ w' = w := by
  have hC := h.cell
  cases hi : isNodeB i
  · have e : s.wrong i k cost = 4 := by unfold PC.wrong; rw [if_neg (by simp [hi])]
    rw [e]
    clear e
    go_enter Try.func61, Try.ntmps61
    go_wp2_with (go_at_call 55; refine (isNode_any _ _).mono ?_; rintro e w' ⟨rfl, rfl⟩)
    go_ret
    exact ⟨rfl, rfl⟩
  · cases hk : hasTenantB s k
    · have e : s.wrong i k cost = 2 := by unfold PC.wrong; rw [if_pos hi, if_neg (by simp [hk])]
      rw [e]
      clear e
      go_enter Try.func61, Try.ntmps61
      go_wp2_with (first | (go_at_call 55; refine (isNode_any _ _).mono ?_; rintro e w' ⟨rfl, rfl⟩) | (go_at_call 85; refine (hasTenant_any b s k _ h).mono ?_; rintro e w' ⟨rfl, rfl⟩))
      go_ret
      exact ⟨rfl, rfl⟩
    · by_cases c0 : cost < 1
      · have e : s.wrong i k cost = 9 := by unfold PC.wrong; rw [if_pos hi, if_pos hk, if_neg (by omega)]
        rw [e]
        clear e
        go_enter Try.func61, Try.ntmps61
        go_wp2_with (first | (go_at_call 55; refine (isNode_any _ _).mono ?_; rintro e w' ⟨rfl, rfl⟩) | (go_at_call 85; refine (hasTenant_any b s k _ h).mono ?_; rintro e w' ⟨rfl, rfl⟩))
        go_ret
        exact ⟨rfl, rfl⟩
      · by_cases c1 : 2000000 < cost
        · have e : s.wrong i k cost = 9 := by unfold PC.wrong; rw [if_pos hi, if_pos hk, if_neg (by omega)]
          rw [e]
          clear e
          go_enter Try.func61, Try.ntmps61
          go_wp2_with (first | (go_at_call 55; refine (isNode_any _ _).mono ?_; rintro e w' ⟨rfl, rfl⟩) | (go_at_call 85; refine (hasTenant_any b s k _ h).mono ?_; rintro e w' ⟨rfl, rfl⟩))
          go_ret
          exact ⟨rfl, rfl⟩
        · have e : s.wrong i k cost = 0 := by unfold PC.wrong; rw [if_pos hi, if_pos hk, if_pos (by omega)]
          rw [e]
          clear e
          go_enter Try.func61, Try.ntmps61
          go_wp2_with (first | (go_at_call 55; refine (isNode_any _ _).mono ?_; rintro e w' ⟨rfl, rfl⟩) | (go_at_call 85; refine (hasTenant_any b s k _ h).mono ?_; rintro e w' ⟨rfl, rfl⟩))
          go_ret
          exact ⟨rfl, rfl⟩

/-- A level is charged. -/
def chargedLev (l amt : Int) : Int := if l < amt then 0 else l - amt
def PC.charged (s : PC) (i k : Nat) (amt : Int) : PC := s.setLevs (upd s.lev i (upd (s.lev i) k (chargedLev (s.lev i k) amt)))
/-- A window is laid down. -/
def PC.setWin (s : PC) (i k : Nat) (v : Int) : PC := { s with win := upd s.win i (upd (s.win i) k v) }
theorem win_set (s : PC) (i k v : Int) (h0 : 0 ≤ i) (h : i < 2) (k0 : 0 ≤ k) (k4 : k < 4) :
    (pcArr s).setIfInBounds (15 + i.toNat * 12 + 8 + k.toNat) (.int .i64 v) = pcArr (s.setWin i.toNat k.toNat v) := by
  rcases lt2 h0 h with rfl | rfl <;> rcases lt4 k0 k4 with rfl | rfl | rfl | rfl <;> rfl

set_option maxHeartbeats 1000000 in
theorem charge_any (b : Nat) (s : PC) (i k amt : Int) (h0 : 0 ≤ i) (h2 : i < 2) (k0 : 0 ≤ k) (kc : k < s.count) (a0 : 0 ≤ amt) (a1 : amt ≤ 3000000) (ok : s.Ok) (w : World) (h : PAt w b s) :
    Calls Try.prog 65 #[.pointer (some ⟨b, 0, none⟩), .int .i64 i, .int .i64 k, .int .i64 amt] w fun e w' => e = .returned (.tuple #[]) ∧ PAt w' b (s.charged i.toNat k.toNat amt) ∧ Wrote b w w' := by
  have hC := h.cell
  have hF := h.free
  have c1 := ok.count1
  have k4 : k < 4 := by omega
  have l0 := ok.lev0 i.toNat k.toNat
  have l1 := ok.lev1 i.toNat k.toNat
  have hS := lev_set s i k (chargedLev (s.lev i.toNat k.toNat) amt) h0 h2 k0 k4
  have HS : Hid ((pcArr s).setIfInBounds (15 + i.toNat * 12 + 4 + k.toNat) (.int .i64 (chargedLev (s.lev i.toNat k.toNat) amt)) = pcArr (s.charged i.toNat k.toNat amt)) := hS
  clear hS
  by_cases hlt : s.lev i.toNat k.toNat < amt
  · have hneg : s.lev i.toNat k.toNat - amt < 0 := by omega
    have HE : Hid (chargedLev (s.lev i.toNat k.toNat) amt = 0) := if_pos hlt
    go_enter Try.func65, Try.ntmps65
    go_wp2_with fail
    go_end0
    refine ⟨rfl, PAt.of ?_ HS.out, ?_⟩
    · rw [HE.out]
      repeat (with_reducible first | refine BAt.drew ?_ | refine BAt.drewN ?_ _ | refine BAt.set ?_ _ _ | exact h.bat)
    · repeat (with_reducible first | refine Kept.drew ?_ | refine Kept.drewN ?_ _ | refine Wrote.set ?_ _ _ | exact Kept.refl _ _)
  · have hneg : ¬ s.lev i.toNat k.toNat - amt < 0 := by omega
    have HE : Hid (chargedLev (s.lev i.toNat k.toNat) amt = s.lev i.toNat k.toNat - amt) := if_neg hlt
    go_enter Try.func65, Try.ntmps65
    go_wp2_with fail
    go_end0
    refine ⟨rfl, PAt.of ?_ HS.out, ?_⟩
    · rw [HE.out]
      repeat (with_reducible first | refine BAt.drew ?_ | refine BAt.drewN ?_ _ | refine BAt.set ?_ _ _ | exact h.bat)
    · repeat (with_reducible first | refine Kept.drew ?_ | refine Kept.drewN ?_ _ | refine Wrote.set ?_ _ _ | exact Kept.refl _ _)

end Go.Proofs.Ytejcdjnngmljnaa
