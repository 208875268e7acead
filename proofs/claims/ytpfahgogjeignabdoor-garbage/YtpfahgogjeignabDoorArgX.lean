/-
  A number that is handed in.
-/
import Derived.Test.YtpfahgogjeignabDoorWaitA
import Derived.Test.YtpfahgogjeignabDoorArgV
set_option linter.unusedVariables false
set_option linter.unusedSimpArgs false
namespace Go.Proofs.YtpfahgogjeignabDoor
open Go.ChangeShapes Go.WideShapes Go.ChangeAt Go.RowKit

theorem inW_of {x : Int} (h : (Lit.int .i64 x).wf = true) : InW x := by
  unfold Lit.wf at h
  have e0 : IntKind.min .i64 = -9223372036854775808 := by decide
  have e1 : IntKind.max .i64 = 9223372036854775807 := by decide
  simp only [e0, e1, Bool.and_eq_true, decide_eq_true_eq] at h
  exact h

end Go.Proofs.YtpfahgogjeignabDoor
