/-
  Tenants that are handed over.
-/
import Derived.Test.YtpfahgogjeignabDoorLawA
import Derived.Deep.Cut
set_option linter.unusedVariables false
set_option linter.unusedSimpArgs false
namespace Go.Proofs.YtpfahgogjeignabDoor
open Go.RowKit

/-- The tenants' cells. -/
def tenF (R B : Nat → Int) (o : Nat) : Value := if o % 2 = 0 then .int .i64 (R (o / 2)) else .int .i64 (B (o / 2))
theorem tenF_one (R B : Nat → Int) (o : Nat) : (tenF R B o).oneCell' = true := by unfold tenF; split <;> rfl
theorem tenF_even (R B : Nat → Int) (i : Nat) : tenF R B (i * 2) = .int .i64 (R i) := by
  unfold tenF
  rw [if_pos (by omega), show i * 2 / 2 = i by omega]
theorem tenF_odd (R B : Nat → Int) (i : Nat) : tenF R B (i * 2 + 1) = .int .i64 (B i) := by
  unfold tenF
  rw [if_neg (by omega), show (i * 2 + 1) / 2 = i by omega]
theorem Ten.src {w : World} {a : Option Addr} {n : Nat} {R B : Nat → Int} (h : Ten w a n R B) : n = 0 ∨ ∃ x, a = some x ∧ ∀ j, j < n * 2 → w.cell? (x.add j) = some (tenF R B j) := by
  rcases h with h | ⟨b, off, rfl, _, hR, hB⟩
  · exact .inl h
  · refine .inr ⟨_, rfl, fun j hj => ?_⟩
    have hadd : (⟨b, off, none⟩ : Addr).add j = ⟨b, off + j, none⟩ := by unfold Addr.add; split <;> simp_all
    rw [hadd]
    rcases (by omega : j = j / 2 * 2 ∨ j = j / 2 * 2 + 1) with e | e
    · rw [e, tenF_even]; exact hR _ (by omega)
    · rw [e, tenF_odd, ← Nat.add_assoc]; exact hB _ (by omega)
theorem Ten.alloc {w : World} {a : Option Addr} {n : Nat} {R B : Nat → Int} (h : Ten w a n R B) (o : Obj) : Ten (w.alloc o) a n R B := h.same ((Kept.refl _ _).alloc o)
/-- What New is handed makes a cluster. -/
structure Good (le wi : Int) (n : Nat) (R B : Nat → Int) : Prop where
  l0 : 1 ≤ le
  l1 : le ≤ 1000
  ten : TensOk n R B
  win : WinOk wi n B

end Go.Proofs.YtpfahgogjeignabDoor
