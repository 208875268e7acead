/-
  A script in memory.
-/
import Derived.Test.YtejcdjnngmljnaaMem
set_option linter.unusedVariables false
set_option linter.unusedSimpArgs false
namespace Go.Proofs.Ytejcdjnngmljnaa
open Go.RowKit

/-- A script lies there. -/
def Scr (w : World) (a : Option Addr) (n : Nat) (K X Y Z : Nat → Int) : Prop :=
  n = 0 ∨ ∃ b off, a = some ⟨b, off, none⟩ ∧ b < w.heap.size ∧ ∀ i, i < n → w.cell? ⟨b, off + i * 4, none⟩ = some (.int .i64 (K i)) ∧ w.cell? ⟨b, off + i * 4 + 1, none⟩ = some (.int .i64 (X i)) ∧ w.cell? ⟨b, off + i * 4 + 2, none⟩ = some (.int .i64 (Y i)) ∧ w.cell? ⟨b, off + i * 4 + 3, none⟩ = some (.int .i64 (Z i))
theorem Scr.same {w w' : World} {a : Option Addr} {n : Nat} {K X Y Z : Nat → Int} (h : Scr w a n K X Y Z) (k : Below w.heap.size w w') : Scr w' a n K X Y Z := by
  rcases h with h | ⟨b, off, rfl, hb, h⟩
  · exact .inl h
  · refine .inr ⟨b, off, rfl, Nat.lt_of_lt_of_le hb k.size, fun i hi => ?_⟩
    obtain ⟨h0, h1, h2, h3⟩ := h i hi
    exact ⟨(k.cell (p := ⟨b, _, none⟩) hb).trans h0, (k.cell (p := ⟨b, _, none⟩) hb).trans h1, (k.cell (p := ⟨b, _, none⟩) hb).trans h2, (k.cell (p := ⟨b, _, none⟩) hb).trans h3⟩

end Go.Proofs.Ytejcdjnngmljnaa
