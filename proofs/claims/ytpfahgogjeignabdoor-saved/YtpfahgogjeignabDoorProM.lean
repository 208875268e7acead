/-
  The program's cluster stays as it may be.
-/
import Derived.Test.YtpfahgogjeignabDoorProI
import Derived.Test.YtpfahgogjeignabDoorProD
import Derived.Test.YtpfahgogjeignabDoorProH
import Derived.Test.YtpfahgogjeignabDoorProB
set_option linter.unusedVariables false
set_option linter.unusedSimpArgs false
namespace Go.Proofs.YtpfahgogjeignabDoor
open Go.RowKit

theorem PAt.far {w : World} {b : Nat} {s : PC} (h : PAt w b s) (p : Addr) (hp : ¬ b = p.block) (v : Value) : PAt (w.setCell p v) b s := BAt.far h p hp v
theorem took_ok {s : PC} (ok : s.Ok) (i : Nat) : (s.took i).Ok := by
  have h : ∀ j k, (s.took i).win j k = s.win j k ∨ (s.took i).win j k = 0 := by
    intro j k
    show (if s.epoch i = s.wepoch then s.win else upd s.win i (fun _ => 0)) j k = s.win j k ∨ (if s.epoch i = s.wepoch then s.win else upd s.win i (fun _ => 0)) j k = 0
    unfold upd
    split
    · exact .inl rfl
    · dsimp only
      split
      · exact .inr rfl
      · exact .inl rfl
  refine ⟨ok.lease0, ok.lease1, ok.win0, ok.win1, ok.count0, ok.count1, ok.rate0, ok.rate1, ok.burst0, ok.burst1, ok.fits, ok.now0, ok.now1, ok.lev0, ok.lev1, ?_, ?_⟩
  · intro j k
    have := ok.wn0 j k
    rcases h j k with e | e <;> rw [e] <;> omega
  · intro j k
    have h1 := ok.wn1 j k
    have h2 := ok.win0
    show (s.took i).win j k ≤ s.window
    rcases h j k with e | e <;> rw [e] <;> omega
theorem campaigned_ok {s : PC} (ok : s.Ok) (i : Int) : (s.campaigned i).2.Ok := by
  unfold PC.campaigned
  split
  · split
    · split
      · exact took_ok (granted_ok ok i) _
      · exact granted_ok ok i
    · exact ok
  · exact ok
theorem asked_ok {s : PC} (ok : s.Ok) (i k : Nat) (cost : Int) (c0 : 1 ≤ cost) (c1 : cost ≤ 2000000) : (s.asked i k cost).2.Ok := by
  have w0 := ok.wn0 i k
  have w1 := ok.wn1 i k
  have d0 := ok.win0
  have d1 := ok.win1
  unfold PC.asked
  split
  · split
    · exact setWin_ok ok i k _ (by omega) (by omega)
    · rename_i hc
      split
      · exact ok
      · have hb := reserve_bd (lev := s.lev i k) w0 hc c1 d0 d1
        generalize reserveOf (s.lev i k) (s.win i k) s.window cost = amt at *
        have o2 := secured_ok ok i k amt hb.1
        have kp := secured_keeps s i k amt
        split
        · refine setWin_ok (charged_ok o2 i k amt hb.1) i k _ hb.2.2.1 ?_
          show _ ≤ (s.secured i k amt).2.window
          rw [kp.2.1]
          exact hb.2.2.2
        · exact o2
  · exact ok

end Go.Proofs.YtpfahgogjeignabDoor

namespace Go.Proofs.YtpfahgogjeignabDoor
open Go.RowKit

def nB (i : Int) (x : Bool) : Bool := isNodeB i && x
def nI (i x : Int) : Int := if isNodeB i then x else 0
def nC (i : Int) : Int := if isNodeB i then 0 else 4
def tB (s : PC) (i k : Int) : Bool := isNodeB i && hasTenantB s k
def tI (s : PC) (i k x : Int) : Int := if tB s i k then x else 0
def tC (s : PC) (i k : Int) : Int := if isNodeB i then (if hasTenantB s k then 0 else 2) else 4
theorem node_bd {i : Int} (h : isNodeB i = true) : 0 ≤ i ∧ i < 2 := by
  simp [isNodeB] at h; omega

def nodeV (s : PC) (i : Int) : Value := .tuple #[.agg #[.bool (nB i (s.up i.toNat)), .int .i64 (nI i (s.epoch i.toNat)), .int .i64 (nI i (s.til i.toNat)), .bool (nB i (s.alone i.toNat))], .int .i64 (nC i)]
def levelV (s : PC) (i k : Int) : Value := .tuple #[.int .i64 (tI s i k (s.lev i.toNat k.toNat)), .int .i64 (tI s i k (s.win i.toNat k.toNat)), .int .i64 (tC s i k)]

theorem pnode_all (b : Nat) (s : PC) (i : Int) (w : World) (h : PAt w b s) :
    Calls Tryd.prog 33 #[.pointer (some ⟨b, 0, none⟩), .int .i64 i] w fun e' w' => e' = .returned (nodeV s i) ∧ Same w w' := by
  cases hi : isNodeB i
  · refine (node_no b s i hi w).mono ?_
    rintro e w' ⟨rfl, k⟩
    exact ⟨by simp [nodeV, nB, nI, nC, hi], k⟩
  · obtain ⟨i0, i2⟩ := node_bd hi
    refine (node_yes b s i i0 i2 w h).mono ?_
    rintro e w' ⟨rfl, k⟩
    exact ⟨by simp [nodeV, nB, nI, nC, hi], k⟩
theorem plevel_all (b : Nat) (s : PC) (i k : Int) (w : World) (h : PAt w b s) (ok : s.Ok) :
    Calls Tryd.prog 34 #[.pointer (some ⟨b, 0, none⟩), .int .i64 i, .int .i64 k] w fun e' w' => e' = .returned (levelV s i k) ∧ ∃ q, w' = w.drewN q := by
  cases hi : isNodeB i
  · refine (level_noNode b i k hi w).mono ?_
    rintro e w' ⟨rfl, q⟩
    exact ⟨by simp [levelV, tI, tB, tC, hi], q⟩
  · obtain ⟨i0, i2⟩ := node_bd hi
    cases hk : hasTenantB s k
    · refine (level_noTenant b s i k hi hk w h).mono ?_
      rintro e w' ⟨rfl, q⟩
      exact ⟨by simp [levelV, tI, tB, tC, hi, hk], q⟩
    · have hk' := hk
      simp [hasTenantB] at hk'
      refine (level_yes b s i k i0 i2 hk'.1 hk'.2 ok w h).mono ?_
      rintro e w' ⟨rfl, q⟩
      exact ⟨by simp [levelV, tI, tB, tC, hi, hk], q⟩

/-- A call of the program's: its answer, its cluster behind it. -/
def PDoes (f : FuncId) (args : List Value) (b : Nat) (s s' : PC) (v : Value) : Prop := ∀ w, PAt w b s → Calls Tryd.prog f (.pointer (some ⟨b, 0, none⟩) :: args).toArray w fun e w' => e = .returned v ∧ PAt w' b s' ∧ Wrote b w w'
theorem pdoes_not {f : FuncId} {args : List Value} {b : Nat} {s : PC} {v : Value} (h : ∀ w, PAt w b s → Calls Tryd.prog f (.pointer (some ⟨b, 0, none⟩) :: args).toArray w fun e w' => e = .returned v ∧ Same w w') : PDoes f args b s s v :=
  fun w hw => (h w hw).mono fun _ _ ⟨he, k⟩ => ⟨he, hw.same k, k.wrote⟩

def PC.passR (s : PC) (t : Int) : Int × PC := if t < 0 ∨ 1000000000000 - s.now < t then (8, s) else (0, s.passed t)
def PC.linkR (s : PC) (x y m : Int) : Int × PC := if linkOk x y m then (0, s.linked x y m) else (7, s)
def PC.crashR (s : PC) (i : Int) : Int × PC := if isNodeB i then (if s.up i.toNat then (0, s.crashed i.toNat) else (5, s)) else (4, s)
def PC.startR (s : PC) (i : Int) : Int × PC := if isNodeB i then (if s.up i.toNat then (6, s) else (0, s.started i.toNat)) else (4, s)
def PC.campR (s : PC) (i : Int) : (Int × Int) × PC := if isNodeB i then (if s.up i.toNat then (((s.campaigned i).1, 0), (s.campaigned i).2) else ((0, 5), s)) else ((0, 4), s)
def PC.askR (s : PC) (i k cost : Int) : (Int × Int) × PC :=
  if s.wrong i k cost = 0 then (if s.up i.toNat then (((s.asked i.toNat k.toNat cost).1, 0), (s.asked i.toNat k.toNat cost).2) else ((0, 5), s)) else ((0, s.wrong i k cost), s)

theorem pass_does {s : PC} (ok : s.Ok) (b : Nat) (t : Int) : PDoes 22 [.int .i64 t] b s (s.passR t).2 (.int .i64 (s.passR t).1) := by
  unfold PC.passR
  split
  · rename_i h; exact pdoes_not (fun w hw => pass_no b s t h ok w hw)
  · exact fun w hw => pass_yes b s t (by omega) (by omega) ok w hw
theorem link_does (s : PC) (b : Nat) (x y m : Int) : PDoes 23 [.int .i64 x, .int .i64 y, .int .i64 m] b s (s.linkR x y m).2 (.int .i64 (s.linkR x y m).1) := by
  unfold PC.linkR
  cases h : linkOk x y m
  · exact pdoes_not (fun w _ => link_no b x y m h w)
  · exact fun w hw => link_yes b s x y m h w hw
theorem crash_does (s : PC) (b : Nat) (i : Int) : PDoes 24 [.int .i64 i] b s (s.crashR i).2 (.int .i64 (s.crashR i).1) := by
  unfold PC.crashR
  cases hi : isNodeB i
  · exact pdoes_not (fun w _ => crash_noNode b i hi w)
  · obtain ⟨i0, i2⟩ := node_bd hi
    cases hu : s.up i.toNat
    · exact pdoes_not (fun w hw => crash_down b s i i0 i2 hu w hw)
    · exact fun w hw => crash_yes b s i i0 i2 hu w hw
theorem start_does (s : PC) (b : Nat) (i : Int) : PDoes 25 [.int .i64 i] b s (s.startR i).2 (.int .i64 (s.startR i).1) := by
  unfold PC.startR
  cases hi : isNodeB i
  · exact pdoes_not (fun w _ => start_noNode b i hi w)
  · obtain ⟨i0, i2⟩ := node_bd hi
    cases hu : s.up i.toNat
    · exact fun w hw => start_yes b s i i0 i2 hu w hw
    · exact pdoes_not (fun w hw => start_up b s i i0 i2 hu w hw)
theorem camp_does {s : PC} (ok : s.Ok) (b : Nat) (i : Int) : PDoes 26 [.int .i64 i] b s (s.campR i).2 (.tuple #[.int .i64 (s.campR i).1.1, .int .i64 (s.campR i).1.2]) := by
  unfold PC.campR
  cases hi : isNodeB i
  · exact pdoes_not (fun w _ => campaign_noNode b i hi w)
  · obtain ⟨i0, i2⟩ := node_bd hi
    cases hu : s.up i.toNat
    · exact pdoes_not (fun w hw => campaign_down b s i i0 i2 hu w hw)
    · exact fun w hw => campaign_yes b s i i0 i2 hu ok w hw
theorem pwrong_bd {s : PC} {i k cost : Int} (h : s.wrong i k cost = 0) : isNodeB i = true ∧ 0 ≤ k ∧ k < s.count ∧ 1 ≤ cost ∧ cost ≤ 2000000 := by
  unfold PC.wrong at h
  split at h
  · rename_i h1
    split at h
    · rename_i h2
      split at h
      · rename_i h3
        simp [hasTenantB] at h2
        exact ⟨h1, h2.1, h2.2, h3.1, h3.2⟩
      · cases h
    · cases h
  · cases h
theorem ask_does {s : PC} (ok : s.Ok) (b : Nat) (i k cost : Int) : PDoes 27 [.int .i64 i, .int .i64 k, .int .i64 cost] b s (s.askR i k cost).2 (.tuple #[.int .i64 (s.askR i k cost).1.1, .int .i64 (s.askR i k cost).1.2]) := by
  unfold PC.askR
  by_cases hw : s.wrong i k cost = 0
  · rw [if_pos hw]
    obtain ⟨hi, k0, kn, c0, c1⟩ := pwrong_bd hw
    obtain ⟨i0, i2⟩ := node_bd hi
    cases hu : s.up i.toNat
    · exact pdoes_not (fun w hp => ask_down b s i k cost hw i0 i2 hu w hp)
    · exact fun w hp => ask_yes b s i k cost hw i0 i2 hu k0 kn c0 c1 ok w hp
  · rw [if_neg hw]
    exact pdoes_not (fun w hp => ask_wrong b s i k cost hw w hp)

end Go.Proofs.YtpfahgogjeignabDoor

namespace Go.Proofs.YtpfahgogjeignabDoor
open Go.RowKit

def PC.unaloned (s : PC) (i : Nat) : PC := { s with alone := upd s.alone i false }
def PC.unsoloed (s : PC) : PC := { s with solo := false }
/-- The other's levels become those of node i. -/
def PC.copied (s : PC) (i : Nat) : PC := s.setLevs (upd s.lev (1 - i) (s.lev i))
/-- The second message of a join. -/
def PC.joinEnd (s : PC) (i : Nat) : Int × PC := (if s.answered i 2 then 3 else 0, if s.arrives i 2 then s.unsoloed else s)
/-- What Join answers where the node is up, and what it leaves. -/
def PC.joined (s : PC) (i : Nat) : Int × PC :=
  if s.hasLease i then
    if s.answered i (1 - i) then ((s.unaloned i).copied i).joinEnd i
    else (0, if s.arrives i (1 - i) then (s.unaloned i).copied i else s.unaloned i)
  else (4, s)
def PC.joinR (s : PC) (i : Int) : (Int × Int) × PC := if isNodeB i then (if s.up i.toNat then (((s.joined i.toNat).1, 0), (s.joined i.toNat).2) else ((0, 5), s)) else ((0, 4), s)

/-- So long must be waited until f is not below need; -1: for ever. -/
def WaitIs (f : Int → Int) (need v : Int) : Prop := (v = -1 ∧ ∀ d : Nat, f d < need) ∨ ∃ d : Nat, v = (d : Int) ∧ need ≤ f d ∧ ∀ e : Nat, e < d → f e < need
theorem WaitIs.one {f : Int → Int} {need v v' : Int} (h : WaitIs f need v) (h' : WaitIs f need v') : v = v' := by
  rcases h with ⟨rfl, h⟩ | ⟨d, rfl, h1, h2⟩ <;> rcases h' with ⟨rfl, h'⟩ | ⟨d', rfl, h1', h2'⟩
  · rfl
  · have := h d'; omega
  · have := h' d; omega
  · rcases Nat.lt_trichotomy d d' with e | e | e
    · have := h2' d e; omega
    · rw [e]
    · have := h2 d' e; omega
/-- How long must be waited. -/
def waitOf (l need rate room : Int) : Int := if need ≤ l then 0 else if rate = 0 ∨ room < need then -1 else (need - l + rate - 1) / rate
theorem waitOf_is {l need rate room : Int} (h1 : l ≤ room) (r0 : 0 ≤ rate) : WaitIs (fun t => if room < l + rate * t then room else l + rate * t) need (waitOf l need rate room) := by
  unfold waitOf
  by_cases hn : need ≤ l
  · rw [if_pos hn]
    refine .inr ⟨0, rfl, ?_, fun e he => absurd he (Nat.not_lt_zero _)⟩
    show need ≤ if room < l + rate * ((0 : Nat) : Int) then room else l + rate * ((0 : Nat) : Int)
    rw [show ((0 : Nat) : Int) = 0 from rfl, Int.mul_zero, Int.add_zero, if_neg (by omega)]
    exact hn
  · rw [if_neg hn]
    by_cases hz : rate = 0 ∨ room < need
    · rw [if_pos hz]
      refine .inl ⟨rfl, fun d => ?_⟩
      show (if room < l + rate * (d : Int) then room else l + rate * (d : Int)) < need
      rcases hz with hz | hz
      · rw [hz, Int.zero_mul, Int.add_zero, if_neg (by omega)]
        omega
      · split <;> omega
    · rw [if_neg hz]
      have rp : 0 < rate := by omega
      have hle : need ≤ room := by omega
      have hq0 : 0 ≤ (need - l + rate - 1) / rate := Int.ediv_nonneg (by omega) (by omega)
      obtain ⟨d, hd⟩ := Int.eq_ofNat_of_zero_le hq0
      have hm := Int.mul_ediv_add_emod (need - l + rate - 1) rate
      have hm0 := Int.emod_nonneg (need - l + rate - 1) (show rate ≠ 0 by omega)
      have hm1 := Int.emod_lt_of_pos (need - l + rate - 1) rp
      rw [hd] at hm ⊢
      refine .inr ⟨d, rfl, ?_, fun e he => ?_⟩
      · show need ≤ if room < l + rate * (d : Int) then room else l + rate * (d : Int)
        split
        · exact hle
        · generalize rate * (d : Int) = p at *
          omega
      · show (if room < l + rate * (e : Int) then room else l + rate * (e : Int)) < need
        have hed : rate * (e : Int) + rate ≤ rate * (d : Int) := by
          have h2 : rate * ((e : Int) + 1) ≤ rate * (d : Int) := Int.mul_le_mul_of_nonneg_left (by omega) (by omega)
          rw [Int.mul_add, Int.mul_one] at h2
          exact h2
        generalize rate * (d : Int) = p at *
        generalize rate * (e : Int) = p2 at *
        split <;> omega
def PC.waitR (s : PC) (i k cost : Int) : Int × Int := if s.wrong i k cost = 0 then (waitOf (s.lev i.toNat k.toNat) (cost - s.win i.toNat k.toNat) (s.rate k.toNat) (s.burst k.toNat - s.window), 0) else (0, s.wrong i k cost)

theorem unaloned_pok {s : PC} (ok : s.Ok) (i : Nat) : (s.unaloned i).Ok :=
  ⟨ok.lease0, ok.lease1, ok.win0, ok.win1, ok.count0, ok.count1, ok.rate0, ok.rate1, ok.burst0, ok.burst1, ok.fits, ok.now0, ok.now1, ok.lev0, ok.lev1, ok.wn0, ok.wn1⟩
theorem unsoloed_pok {s : PC} (ok : s.Ok) : s.unsoloed.Ok :=
  ⟨ok.lease0, ok.lease1, ok.win0, ok.win1, ok.count0, ok.count1, ok.rate0, ok.rate1, ok.burst0, ok.burst1, ok.fits, ok.now0, ok.now1, ok.lev0, ok.lev1, ok.wn0, ok.wn1⟩
theorem copied_pok {s : PC} (ok : s.Ok) (i : Nat) : (s.copied i).Ok := by
  refine ⟨ok.lease0, ok.lease1, ok.win0, ok.win1, ok.count0, ok.count1, ok.rate0, ok.rate1, ok.burst0, ok.burst1, ok.fits, ok.now0, ok.now1, ?_, ?_, ok.wn0, ok.wn1⟩
  · intro j q
    show 0 ≤ upd s.lev (1 - i) (s.lev i) j q
    unfold upd
    split
    · exact ok.lev0 i q
    · exact ok.lev0 j q
  · intro j q
    show upd s.lev (1 - i) (s.lev i) j q ≤ _
    unfold upd
    split
    · exact ok.lev1 i q
    · exact ok.lev1 j q
theorem joinEnd_pok {s : PC} (ok : s.Ok) (i : Nat) : (s.joinEnd i).2.Ok := by
  unfold PC.joinEnd
  dsimp only
  split
  · exact unsoloed_pok ok
  · exact ok
theorem joined_ok {s : PC} (ok : s.Ok) (i : Nat) : (s.joined i).2.Ok := by
  unfold PC.joined
  split
  · split
    · exact joinEnd_pok (copied_pok (unaloned_pok ok i) i) i
    · dsimp only
      split
      · exact copied_pok (unaloned_pok ok i) i
      · exact unaloned_pok ok i
  · exact ok

end Go.Proofs.YtpfahgogjeignabDoor
