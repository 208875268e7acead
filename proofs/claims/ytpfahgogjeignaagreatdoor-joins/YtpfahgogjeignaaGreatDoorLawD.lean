/-
  What a pair tells: the program's answers and the document's are the same.
-/
import Derived.Test.YtpfahgogjeignaaGreatDoorLawC
import Derived.Test.YtpfahgogjeignaaGreatDoorProM
set_option linter.unusedVariables false
set_option linter.unusedSimpArgs false
namespace Go.Proofs.YtpfahgogjeignaaGreatDoor
open Go.RowKit
attribute [local go_sem] fArr_get

/-- The program's cluster and the document's stand alike. -/
structure Sim (s : PC) (r : RS) : Prop where
  ok : s.Ok
  rok : r.Ok
  lease : s.lease = r.lease
  window : s.window = r.window
  count : s.count = (r.n : Int)
  now : s.now = r.now
  rate : ∀ k, k < r.n → s.rate k = r.rate k
  room : ∀ k, k < r.n → s.burst k - s.window = r.room k
  link : ∀ j, j < 3 → s.link j = r.mode j
  up : ∀ i, i < 2 → s.up i = r.up i
  epoch : ∀ i, i < 2 → s.epoch i = r.sep i
  til : ∀ i, i < 2 → s.til i = r.stil i
  alone : ∀ i, i < 2 → s.alone i = r.alone i
  lev : ∀ i k, i < 2 → k < r.n → s.lev i k = r.level i k
  win : ∀ i k, i < 2 → k < r.n → s.win i k = r.win i k
  holder : s.holder = r.holder
  wepoch : s.wepoch = r.epoch
  wtil : s.wtil = r.til
  solo : s.solo = r.solo

theorem rnode_all (A : RA) (s : PC) (r : RS) (i : Int) (w : World) (h : RAt w A r) (hs : Sim s r) :
    Calls Tryz.prog 46 #[.pointer (some ⟨A.c, 0, none⟩), .int .i64 i] w fun e' w' => e' = .returned (nodeV s i) ∧ Same w w' := by
  cases hi : isNodeB i
  · refine (rnode_no A i hi w).mono ?_
    rintro e w' ⟨rfl, k⟩
    exact ⟨by simp [nodeV, nB, nI, nC, hi], k⟩
  · obtain ⟨i0, i2⟩ := node_bd hi
    refine (rnode_yes A r i i0 i2 w h).mono ?_
    rintro e w' ⟨rfl, k⟩
    have i2n : i.toNat < 2 := by omega
    exact ⟨by simp [nodeV, nB, nI, nC, hi, hs.up _ i2n, hs.epoch _ i2n, hs.til _ i2n, hs.alone _ i2n], k⟩
theorem rlevel_all (A : RA) (s : PC) (r : RS) (i k : Int) (w : World) (h : RAt w A r) (hs : Sim s r) :
    Calls Tryz.prog 49 #[.pointer (some ⟨A.c, 0, none⟩), .int .i64 i, .int .i64 k] w fun e' w' => e' = .returned (levelV s i k) ∧ ∃ q, w' = w.drewN q := by
  cases hi : isNodeB i
  · refine (rlevel_noNode A i k hi w).mono ?_
    rintro e w' ⟨rfl, q⟩
    exact ⟨by simp [levelV, tI, tB, tC, hi], q⟩
  · obtain ⟨i0, i2⟩ := node_bd hi
    have hc := hs.count
    cases hk : hasTenantB s k
    · have hk' := hk
      simp [hasTenantB] at hk'
      refine (rlevel_noTenant A r i k hi (by omega) w h).mono ?_
      rintro e w' ⟨rfl, q⟩
      exact ⟨by simp [levelV, tI, tB, tC, hi, hk], q⟩
    · have hk' := hk
      simp [hasTenantB] at hk'
      refine (rlevel_yes A r i k i0 i2 hk'.1 (by omega) w h hs.rok).mono ?_
      rintro e w' ⟨rfl, q⟩
      have i2n : i.toNat < 2 := by omega
      have k2n : k.toNat < r.n := by omega
      exact ⟨by simp [levelV, tI, tB, tC, hi, hk, hs.lev _ _ i2n k2n, hs.win _ _ i2n k2n], q⟩
theorem rwitness_all (A : RA) (s : PC) (r : RS) (w : World) (h : RAt w A r) (hs : Sim s r) :
    Calls Tryz.prog 43 #[.pointer (some ⟨A.c, 0, none⟩)] w fun e' w' => e' = .returned (.agg #[.int .i64 s.holder, .int .i64 s.wepoch, .int .i64 s.wtil, .bool s.solo]) ∧ Same w w' := by
  rw [hs.holder, hs.wepoch, hs.wtil, hs.solo]
  exact rwitness_any A r w h

set_option maxHeartbeats 400000 in
theorem sameNode_any (a d : Bool) (b c : Int) (w : World) :
    Calls Tryz.prog 47 #[.agg #[.bool a, .int .i64 b, .int .i64 c, .bool d], .agg #[.bool a, .int .i64 b, .int .i64 c, .bool d]] w fun e w' => e = .returned (.bool true) ∧ Same w w' := by
  go_enter Tryz.func47, Tryz.ntmps47
  go_wp2
  go_ret
  exact ⟨rfl, ((Kept.refl _ _).alloc _).alloc _⟩

set_option maxHeartbeats 400000 in
theorem sameWitness_any (a b c : Int) (d : Bool) (w : World) :
    Calls Tryz.prog 44 #[.agg #[.int .i64 a, .int .i64 b, .int .i64 c, .bool d], .agg #[.int .i64 a, .int .i64 b, .int .i64 c, .bool d]] w fun e w' => e = .returned (.bool true) ∧ Same w w' := by
  go_enter Tryz.func44, Tryz.ntmps44
  go_wp2
  go_ret
  exact ⟨rfl, ((Kept.refl _ _).alloc _).alloc _⟩

theorem Pair.same {w w' : World} {p b : Nat} {A : RA} {s : PC} {r : RS} (h : Pair w p b A s r) (k : Same w w') : Pair w' p b A s r :=
  ⟨h.hp.kept k (fun h => h), h.hc.same k, h.hr.same k, h.pb, h.pr, h.br⟩

end Go.Proofs.YtpfahgogjeignaaGreatDoor
