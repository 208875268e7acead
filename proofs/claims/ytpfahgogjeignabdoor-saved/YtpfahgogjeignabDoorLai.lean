/-
  What the rows' list of package-level variables gives: the library's table; and a world that meets the list.
-/
import Derived.Test.YtpfahgogjeignabDoorNum
import Derived.ProofKit
import Derived.LaidMore
import Derived.OpenShut
import Derived.ChangeOld
import Derived.SizedLaws
import Derived.Lib.LaidTab
import Derived.Stop.Joined
set_option linter.unusedVariables false
set_option linter.unusedSimpArgs false
namespace Go.Proofs.YtpfahgogjeignabDoor
open Go.ChangeShapes Go.WideShapes Go.ChangeAt Go.RowKit

def lai : List (String × DataW Unit) := [("math/bits.deBruijn32tab", Rows.laid_math_bits_deBruijn32tab), ("math/bits.deBruijn64tab", Rows.laid_math_bits_deBruijn64tab), ("internal/strconv.uint64pow10", Rows.laid_internal_strconv_uint64pow10)]
theorem pow_type : (Tryd.prog.globals[0]?).map (·.type) = some 112 := by kernel_rfl
theorem pow_cells : Tryd.prog.cellsOf 112 = 20 := by kernel_rfl
theorem u64_cells : Tryd.prog.cellsOf 107 = 1 := by kernel_rfl
theorem lib_of_laid {W : World} (h : laidMetH Tryd.prog lai W) : Lib W := by
  rw [MakeChecks.laidMetH_plain _ _ _ (by kernel_rfl)] at h
  obtain ⟨ps, ⟨g0, t0, cs0, f0, p0, q0, hg0, ht0, hv0, hd0, ⟨g1, t1, cs1, f1, p1, q1, hg1, ht1, hv1, hd1, ⟨g2, t2, cs2, f2, p2, q2, hg2, ht2, hv2, hd2, _, _⟩, _⟩, _⟩, _, _⟩ := h
  obtain rfl := Option.some.inj (gPow.symm.trans hg2)
  obtain rfl := Option.some.inj (pow_type.symm.trans ht2)
  unfold Lib Go.Lib.TabIs
  rw [hv2, ← Go.Lib.cells_of_tab (zs := Go.Lib.pow10Tab) Tryd.underlying112 Tryd.underlying107 u64_cells pow_cells hd2]
theorem door_met (os : Os) (args : Array Value) : laidMetH Tryd.prog lai ((World.doorLaid Tryd.prog 4000 os).forCall (fun _ _ => 0) ⟨#[], args, []⟩).memory :=
  laidMetH_of_parts3 (fuel := 8) (laidMet_of_run' 8 (by kernel_rfl) (by kernel_rfl)) (by kernel_rfl) (by kernel_rfl)

end Go.Proofs.YtpfahgogjeignabDoor
