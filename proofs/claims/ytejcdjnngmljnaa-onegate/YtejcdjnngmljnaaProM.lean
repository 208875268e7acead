/-
  The program's cluster stays as it may be.
-/
import Derived.Test.YtejcdjnngmljnaaProL
import Derived.Test.YtejcdjnngmljnaaProD
import Derived.Test.YtejcdjnngmljnaaProH
set_option linter.unusedVariables false
set_option linter.unusedSimpArgs false
namespace Go.Proofs.Ytejcdjnngmljnaa
open Go.RowKit

theorem PAt.far {w : World} {b : Nat} {s : PC} (h : PAt w b s) (p : Addr) (hp : ¬ b = p.block) (v : Value) : PAt (w.setCell p v) b s := BAt.far h p hp v
theorem took_ok {s : PC} (ok : s.Ok) (i : Nat) : (s.took i).Ok := by
  have h : ∀ j k, (s.took i).win j k = s.win j k ∨ (s.took i).win j k = 0 := by
    intro j k
    show (if s.epoch i = s.wepoch then s.win else upd s.win i (fun _ => 0)) j k = s.win j k ∨ (if s.epoch i = s.wepoch then s.win else upd s.win i (fun _ => 0)) j k = 0
    unfold upd
    split
    · exact .inl rfl
    · dsimp only
      split
      · exact .inr rfl
      · exact .inl rfl
  refine ⟨ok.lease0, ok.lease1, ok.win0, ok.win1, ok.count0, ok.count1, ok.rate0, ok.rate1, ok.burst0, ok.burst1, ok.fits, ok.now0, ok.now1, ok.lev0, ok.lev1, ?_, ?_⟩
  · intro j k
    have := ok.wn0 j k
    rcases h j k with e | e <;> rw [e] <;> omega
  · intro j k
    have h1 := ok.wn1 j k
    have h2 := ok.win0
    show (s.took i).win j k ≤ s.window
    rcases h j k with e | e <;> rw [e] <;> omega
theorem campaigned_ok {s : PC} (ok : s.Ok) (i : Int) : (s.campaigned i).2.Ok := by
  unfold PC.campaigned
  split
  · split
    · split
      · exact took_ok (granted_ok ok i) _
      · exact granted_ok ok i
    · exact ok
  · exact ok
theorem asked_ok {s : PC} (ok : s.Ok) (i k : Nat) (cost : Int) (c0 : 1 ≤ cost) (c1 : cost ≤ 2000000) : (s.asked i k cost).2.Ok := by
  have w0 := ok.wn0 i k
  have w1 := ok.wn1 i k
  have d0 := ok.win0
  have d1 := ok.win1
  unfold PC.asked
  split
  · split
    · exact setWin_ok ok i k _ (by omega) (by omega)
    · rename_i hc
      split
      · exact ok
      · have hb := reserve_bd (lev := s.lev i k) w0 hc c1 d0 d1
        generalize reserveOf (s.lev i k) (s.win i k) s.window cost = amt at *
        have o2 := secured_ok ok i k amt hb.1
        have kp := secured_keeps s i k amt
        split
        · refine setWin_ok (charged_ok o2 i k amt hb.1) i k _ hb.2.2.1 ?_
          show _ ≤ (s.secured i k amt).2.window
          rw [kp.2.1]
          exact hb.2.2.2
        · exact o2
  · exact ok

end Go.Proofs.Ytejcdjnngmljnaa
