/-
  Rows of cells by a function.
-/
import Derived.Test.YtpfahgogjeignabDoorMem
import Derived.Deep.QuietTactic
import Derived.BigQuiet
import Derived.Deep.RegionHeld3
import Derived.Deep.DrawnRows
import Derived.Deep.AppendLies
set_option linter.unusedVariables false
set_option linter.unusedSimpArgs false
namespace Go.Proofs.YtpfahgogjeignabDoor
open Go.RowKit

/-- n values by a function. -/
def fArr (n : Nat) (f : Nat → Value) : Array Value := ((List.range n).map f).toArray
theorem fArr_get (n : Nat) (f : Nat → Value) (k : Nat) (h : k < n) : (fArr n f)[k]? = some (f k) := by simp [fArr, h]
theorem fArr_size (n : Nat) (f : Nat → Value) : (fArr n f).size = n := by simp [fArr]
theorem fArr_set (n : Nat) (f : Nat → Value) (k : Nat) (v : Value) : (fArr n f).setIfInBounds k v = fArr n (upd f k v) := by
  unfold fArr
  rw [List.setIfInBounds_toArray]
  congr 1
  apply List.ext_getElem?
  intro j
  rw [List.getElem?_set]
  by_cases hj : j < n
  · by_cases hk : k = j
    · subst hk; simp [hj, upd]
    · simp [hj, hk, upd, Ne.symm hk]
  · by_cases hk : k = j
    · subst hk; simp [hj]
    · simp [hj, hk]
theorem BAt.made' (w : World) (g : Nat) (hg : g = w.heap.size) (t : TypeId) (arr : Array Value) : BAt (w.alloc (.cells arr t)) g t arr := by
  subst hg
  show (w.heap.push _)[w.heap.size]? = _
  simp
theorem lt2n {i : Nat} (h : i < 2) : i = 0 ∨ i = 1 := by omega
theorem info_of {t : TypeId} {z : Value} {sz bs : Nat} (h : ((Tryd.prog.info? t).map fun i => (i.zero, i.size, i.bytes)) = some (some z, sz, bs)) : ∃ i, Tryd.prog.info? t = some i ∧ i.zero = some z ∧ i.size = sz ∧ i.bytes = bs := by
  cases hi : Tryd.prog.info? t with
  | none => rw [hi] at h; cases h
  | some i =>
    rw [hi] at h
    simp only [Option.map_some, Option.some.injEq, Prod.mk.injEq] at h
    exact ⟨i, rfl, h.1, h.2.1, h.2.2⟩

end Go.Proofs.YtpfahgogjeignabDoor
