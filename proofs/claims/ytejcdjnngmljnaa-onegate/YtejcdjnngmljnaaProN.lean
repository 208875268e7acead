/-
  Each call of the program as one: what it answers and leaves, whatever it is handed.
-/
import Derived.Test.YtejcdjnngmljnaaProM
import Derived.Test.YtejcdjnngmljnaaProB
set_option linter.unusedVariables false
set_option linter.unusedSimpArgs false
namespace Go.Proofs.Ytejcdjnngmljnaa
open Go.RowKit

def nB (i : Int) (x : Bool) : Bool := isNodeB i && x
def nI (i x : Int) : Int := if isNodeB i then x else 0
def nC (i : Int) : Int := if isNodeB i then 0 else 4
def tB (s : PC) (i k : Int) : Bool := isNodeB i && hasTenantB s k
def tI (s : PC) (i k x : Int) : Int := if tB s i k then x else 0
def tC (s : PC) (i k : Int) : Int := if isNodeB i then (if hasTenantB s k then 0 else 2) else 4
theorem node_bd {i : Int} (h : isNodeB i = true) : 0 ≤ i ∧ i < 2 := by
  simp [isNodeB] at h; omega

def nodeV (s : PC) (i : Int) : Value := .tuple #[.agg #[.bool (nB i (s.up i.toNat)), .int .i64 (nI i (s.epoch i.toNat)), .int .i64 (nI i (s.til i.toNat)), .bool (nB i (s.alone i.toNat))], .int .i64 (nC i)]
def levelV (s : PC) (i k : Int) : Value := .tuple #[.int .i64 (tI s i k (s.lev i.toNat k.toNat)), .int .i64 (tI s i k (s.win i.toNat k.toNat)), .int .i64 (tC s i k)]

theorem pnode_all (b : Nat) (s : PC) (i : Int) (w : World) (h : PAt w b s) :
    Calls Try.prog 23 #[.pointer (some ⟨b, 0, none⟩), .int .i64 i] w fun e' w' => e' = .returned (nodeV s i) ∧ Same w w' := by
  cases hi : isNodeB i
  · refine (node_no b s i hi w).mono ?_
    rintro e w' ⟨rfl, k⟩
    exact ⟨by simp [nodeV, nB, nI, nC, hi], k⟩
  · obtain ⟨i0, i2⟩ := node_bd hi
    refine (node_yes b s i i0 i2 w h).mono ?_
    rintro e w' ⟨rfl, k⟩
    exact ⟨by simp [nodeV, nB, nI, nC, hi], k⟩
theorem plevel_all (b : Nat) (s : PC) (i k : Int) (w : World) (h : PAt w b s) (ok : s.Ok) :
    Calls Try.prog 53 #[.pointer (some ⟨b, 0, none⟩), .int .i64 i, .int .i64 k] w fun e' w' => e' = .returned (levelV s i k) ∧ ∃ q, w' = w.drewN q := by
  cases hi : isNodeB i
  · refine (level_noNode b i k hi w).mono ?_
    rintro e w' ⟨rfl, q⟩
    exact ⟨by simp [levelV, tI, tB, tC, hi], q⟩
  · obtain ⟨i0, i2⟩ := node_bd hi
    cases hk : hasTenantB s k
    · refine (level_noTenant b s i k hi hk w h).mono ?_
      rintro e w' ⟨rfl, q⟩
      exact ⟨by simp [levelV, tI, tB, tC, hi, hk], q⟩
    · have hk' := hk
      simp [hasTenantB] at hk'
      refine (level_yes b s i k i0 i2 hk'.1 hk'.2 ok w h).mono ?_
      rintro e w' ⟨rfl, q⟩
      exact ⟨by simp [levelV, tI, tB, tC, hi, hk], q⟩

/-- A call of the program's: its answer, its cluster behind it. -/
def PDoes (f : FuncId) (args : List Value) (b : Nat) (s s' : PC) (v : Value) : Prop := ∀ w, PAt w b s → Calls Try.prog f (.pointer (some ⟨b, 0, none⟩) :: args).toArray w fun e w' => e = .returned v ∧ PAt w' b s' ∧ Wrote b w w'
theorem pdoes_not {f : FuncId} {args : List Value} {b : Nat} {s : PC} {v : Value} (h : ∀ w, PAt w b s → Calls Try.prog f (.pointer (some ⟨b, 0, none⟩) :: args).toArray w fun e w' => e = .returned v ∧ Same w w') : PDoes f args b s s v :=
  fun w hw => (h w hw).mono fun _ _ ⟨he, k⟩ => ⟨he, hw.same k, k.wrote⟩

def PC.passR (s : PC) (t : Int) : Int × PC := if t < 0 ∨ 1000000000000 - s.now < t then (8, s) else (0, s.passed t)
def PC.linkR (s : PC) (x y m : Int) : Int × PC := if linkOk x y m then (0, s.linked x y m) else (7, s)
def PC.crashR (s : PC) (i : Int) : Int × PC := if isNodeB i then (if s.up i.toNat then (0, s.crashed i.toNat) else (5, s)) else (4, s)
def PC.startR (s : PC) (i : Int) : Int × PC := if isNodeB i then (if s.up i.toNat then (6, s) else (0, s.started i.toNat)) else (4, s)
def PC.campR (s : PC) (i : Int) : (Int × Int) × PC := if isNodeB i then (if s.up i.toNat then (((s.campaigned i).1, 0), (s.campaigned i).2) else ((0, 5), s)) else ((0, 4), s)
def PC.askR (s : PC) (i k cost : Int) : (Int × Int) × PC :=
  if s.wrong i k cost = 0 then (if s.up i.toNat then (((s.asked i.toNat k.toNat cost).1, 0), (s.asked i.toNat k.toNat cost).2) else ((0, 5), s)) else ((0, s.wrong i k cost), s)

theorem pass_does {s : PC} (ok : s.Ok) (b : Nat) (t : Int) : PDoes 26 [.int .i64 t] b s (s.passR t).2 (.int .i64 (s.passR t).1) := by
  unfold PC.passR
  split
  · rename_i h; exact pdoes_not (fun w hw => pass_no b s t h ok w hw)
  · exact fun w hw => pass_yes b s t (by omega) (by omega) ok w hw
theorem link_does (s : PC) (b : Nat) (x y m : Int) : PDoes 46 [.int .i64 x, .int .i64 y, .int .i64 m] b s (s.linkR x y m).2 (.int .i64 (s.linkR x y m).1) := by
  unfold PC.linkR
  cases h : linkOk x y m
  · exact pdoes_not (fun w _ => link_no b x y m h w)
  · exact fun w hw => link_yes b s x y m h w hw
theorem crash_does (s : PC) (b : Nat) (i : Int) : PDoes 47 [.int .i64 i] b s (s.crashR i).2 (.int .i64 (s.crashR i).1) := by
  unfold PC.crashR
  cases hi : isNodeB i
  · exact pdoes_not (fun w _ => crash_noNode b i hi w)
  · obtain ⟨i0, i2⟩ := node_bd hi
    cases hu : s.up i.toNat
    · exact pdoes_not (fun w hw => crash_down b s i i0 i2 hu w hw)
    · exact fun w hw => crash_yes b s i i0 i2 hu w hw
theorem start_does (s : PC) (b : Nat) (i : Int) : PDoes 48 [.int .i64 i] b s (s.startR i).2 (.int .i64 (s.startR i).1) := by
  unfold PC.startR
  cases hi : isNodeB i
  · exact pdoes_not (fun w _ => start_noNode b i hi w)
  · obtain ⟨i0, i2⟩ := node_bd hi
    cases hu : s.up i.toNat
    · exact fun w hw => start_yes b s i i0 i2 hu w hw
    · exact pdoes_not (fun w hw => start_up b s i i0 i2 hu w hw)
theorem camp_does {s : PC} (ok : s.Ok) (b : Nat) (i : Int) : PDoes 27 [.int .i64 i] b s (s.campR i).2 (.tuple #[.int .i64 (s.campR i).1.1, .int .i64 (s.campR i).1.2]) := by
  unfold PC.campR
  cases hi : isNodeB i
  · exact pdoes_not (fun w _ => campaign_noNode b i hi w)
  · obtain ⟨i0, i2⟩ := node_bd hi
    cases hu : s.up i.toNat
    · exact pdoes_not (fun w hw => campaign_down b s i i0 i2 hu w hw)
    · exact fun w hw => campaign_yes b s i i0 i2 hu ok w hw
theorem pwrong_bd {s : PC} {i k cost : Int} (h : s.wrong i k cost = 0) : isNodeB i = true ∧ 0 ≤ k ∧ k < s.count ∧ 1 ≤ cost ∧ cost ≤ 2000000 := by
  unfold PC.wrong at h
  split at h
  · rename_i h1
    split at h
    · rename_i h2
      split at h
      · rename_i h3
        simp [hasTenantB] at h2
        exact ⟨h1, h2.1, h2.2, h3.1, h3.2⟩
      · cases h
    · cases h
  · cases h
theorem ask_does {s : PC} (ok : s.Ok) (b : Nat) (i k cost : Int) : PDoes 28 [.int .i64 i, .int .i64 k, .int .i64 cost] b s (s.askR i k cost).2 (.tuple #[.int .i64 (s.askR i k cost).1.1, .int .i64 (s.askR i k cost).1.2]) := by
  unfold PC.askR
  by_cases hw : s.wrong i k cost = 0
  · rw [if_pos hw]
    obtain ⟨hi, k0, kn, c0, c1⟩ := pwrong_bd hw
    obtain ⟨i0, i2⟩ := node_bd hi
    cases hu : s.up i.toNat
    · exact pdoes_not (fun w hp => ask_down b s i k cost hw i0 i2 hu w hp)
    · exact fun w hp => ask_yes b s i k cost hw i0 i2 hu k0 kn c0 c1 ok w hp
  · rw [if_neg hw]
    exact pdoes_not (fun w hp => ask_wrong b s i k cost hw w hp)

end Go.Proofs.Ytejcdjnngmljnaa
