/-
  A cluster is saved and loaded: what goes on is as it was.
-/
import Derived.Test.YtpfahgogjeignaaDoorProS
set_option linter.unusedVariables false
set_option linter.unusedSimpArgs false
namespace Go.Proofs.YtpfahgogjeignaaDoor
open Go.RowKit

set_option maxHeartbeats 1000000 in
theorem again_any (b : Nat) (s : PC) (m : Nat) (h : Fit s m) (hm9 : (m : Int) < 9000000000000000000) (w : World) (hl : Lib w) (hp : PAt w b s) :
    Calls Tryd.prog 10 #[.pointer (some ⟨b, 0, none⟩)] w fun e w' => ∃ b', e = .returned (.pointer (some ⟨b', 0, none⟩)) ∧ w.heap.size ≤ b' ∧ PAt w' b' s ∧ Same w w' := by
  have HS := save_any b s m h hm9 w hl hp
  have HL : Hid (∀ w1, Lib w1 → Calls Tryd.prog 29 #[.string (saveText s)] w1 fun e w' => ∃ b', e = .returned (.tuple #[.pointer (some ⟨b', 0, none⟩), .int .i64 0]) ∧ w1.heap.size ≤ b' ∧ PAt w' b' s ∧ Same w1 w') := fun w1 h1 => load_saved s m h hm9 w1 h1
  generalize saveText s = T at *
  clear h hm9
  go_enter Tryd.func10, Tryd.ntmps10
  go_wp2_with fail
  refine HS.mono ?_
  rintro e w1 ⟨rfl, k1⟩
  go_wp2_with fail
  refine (HL.out w1 (hl.below (k1.below (Nat.le_refl _) (fun _ _ h => h)))).mono ?_
  rintro e w2 ⟨b', rfl, hb, hp2, k2⟩
  go_wp2_with fail
  go_ret
  exact ⟨b', rfl, Nat.le_trans k1.size hb, hp2, k1.trans k2⟩

end Go.Proofs.YtpfahgogjeignaaDoor
