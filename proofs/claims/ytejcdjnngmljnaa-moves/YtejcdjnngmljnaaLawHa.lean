/-
  Ask: the program's and the document's, side by side.
-/
import Derived.Test.YtejcdjnngmljnaaLawH
import Derived.Test.YtejcdjnngmljnaaSimB
import Derived.Test.YtejcdjnngmljnaaProL
set_option linter.unusedVariables false
set_option linter.unusedSimpArgs false
namespace Go.Proofs.Ytejcdjnngmljnaa
open Go.RowKit

theorem ask_both {s : PC} {r : RS} (h : Sim s r) (b : Nat) (i k cost : Int) (hroom : ∀ j q, ((r.past j q).length + 1) * 24 ≤ 140737488355328) : ∃ v c s' r', Both 28 74 [.int .i64 i, .int .i64 k, .int .i64 cost] b s r (.tuple #[.int .i64 v, .int .i64 c]) s' r' := by
  by_cases hw : r.wrong i k cost = 0
  · have hws : s.wrong i k cost = 0 := by rw [wrong_eq h]; exact hw
    obtain ⟨hi, k0, kn, c0, c1⟩ := wrong_bd hw
    obtain ⟨i0, i2⟩ := node_bd hi
    have i2n : i.toNat < 2 := by omega
    have k2n : k.toNat < r.n := by omega
    cases hu : s.up i.toNat
    · exact ⟨0, 5, s, r, pdoes_not (fun w hp => ask_down b s i k cost hws i0 i2 hu w hp), rdoes_not (fun w A hp => rask_down A r i k cost hw i0 i2 (by rw [← h.up _ i2n]; exact hu) w hp), h, rfl, fun _ _ => Nat.le_succ _⟩
    · obtain ⟨e1, e2⟩ := sim_asked h i.toNat k.toNat i2n k2n cost c0 c1
      refine ⟨(s.asked i.toNat k.toNat cost).1, 0, (s.asked i.toNat k.toNat cost).2, (r.asked i.toNat k.toNat cost).2, fun w hp => ask_yes b s i k cost hws i0 i2 hu k0 (by rw [h.count]; exact kn) c0 c1 h.ok w hp, fun w A hp => ?_, e2, asked_n r _ _ _, fun j q => asked_len r _ _ i2n _ j q⟩
      rw [e1]
      exact rask_yes A r i k cost hw i0 i2 (by rw [← h.up _ i2n]; exact hu) k0 kn c0 c1 (by rw [← h.win _ _ i2n k2n]; exact h.ok.wn0 _ _) (by rw [← h.win _ _ i2n k2n]; exact Int.le_trans (h.ok.wn1 _ _) h.ok.win1) h.rok w hp (fun j => hroom j _)
  · have hws : s.wrong i k cost ≠ 0 := by rw [wrong_eq h]; exact hw
    refine ⟨0, r.wrong i k cost, s, r, pdoes_not (fun w hp => ?_), rdoes_not (fun w A hp => rask_wrong A r i k cost hw w hp), h, rfl, fun _ _ => Nat.le_succ _⟩
    have := ask_wrong b s i k cost hws w hp
    rw [wrong_eq h] at this
    exact this

end Go.Proofs.Ytejcdjnngmljnaa
