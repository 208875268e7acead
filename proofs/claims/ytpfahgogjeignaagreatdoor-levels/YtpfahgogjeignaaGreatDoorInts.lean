/-
  Rows of numbers that grow.
-/
import Derived.Test.YtpfahgogjeignaaGreatDoorArr
import Derived.Deep.RegionLaw
import Derived.BigRegion
import Derived.Deep.CutRange
set_option linter.unusedVariables false
set_option linter.unusedSimpArgs false
namespace Go.Proofs.YtpfahgogjeignaaGreatDoor
open Go.RowKit

/-- A row of numbers lies there. -/
def Row (w : World) (g n : Nat) (f : Nat → Int) : Prop := g < w.heap.size ∧ ∀ j, j < n → w.cell? ⟨g, j, none⟩ = some (.int .i64 (f j))
theorem Row.kept {w w' : World} {g n : Nat} {f : Nat → Int} {S : Nat → Prop} (h : Row w g n f) (k : Kept S w w') (hs : ¬ S g) : Row w' g n f :=
  ⟨Nat.lt_of_lt_of_le h.1 k.size, fun j hj => (World.cell?_of_block (w := w) (k.block g h.1 hs)).trans (h.2 j hj)⟩
theorem info_int : ((Tryz.prog.info? 3).map fun i => (i.zero, i.size, i.bytes)) = some (some (.int .i64 0), 1, 8) := by kernel_rfl
theorem made_ints (n : Nat) : madeCells #[Value.int .i64 0] (n * 1) = fArr n (fun _ => .int .i64 0) := by
  unfold madeCells fArr
  apply Array.ext_getElem?
  intro j
  by_cases hj : j < n <;> simp [Nat.mod_one, hj]
theorem make_ints (n : Nat) (hn : n ≤ 4) (w : World) :
    (Instr.makeSlice 27 (.int .i64 (n : Int)) (.int .i64 (n : Int))).run Tryz.prog w = .ok (.slice (some ⟨w.heap.size, 0, none⟩) n n) (w.alloc (.cells (fArr n fun _ => .int .i64 0) 3)) := by
  obtain ⟨i, hi, hz, hs, hb⟩ := info_of info_int
  have := run_make (P := Tryz.prog) w 27 3 i (.int .i64 0) Tryz.underlying27 hi hz .i64 .i64 n n (by omega) (by omega) (by rw [hb]; omega) (by omega)
  rw [this, hs]
  simp only [Int.toNat_natCast]
  rw [show (Value.int .i64 0).cells = #[Value.int .i64 0] from rfl, made_ints]
def intsTo (f : Nat → Int) : Nat → List Value
  | 0 => []
  | k + 1 => intsTo f k ++ [.int .i64 (f k)]

/-- A row of numbers that grows: its value, its cells. -/
def Grow (w : World) (base : Nat) (a : Option Addr) (cap k : Nat) (f : Nat → Int) : Prop := w.ownsRow base 3 1 (.slice a k cap) k (intsTo f k)


theorem owns_kept {w w' : World} {base : Nat} {e : TypeId} {size : Nat} {v : Value} {n : Nat} {xs : List Value} {S : Nat → Prop} (h : w.ownsRow base e size v n xs) (k : Kept S w w') (hs : ∀ g, v.ownBlock = some g → ¬ S g) : w'.ownsRow base e size v n xs := by
  refine ⟨h.1, ?_⟩
  rcases h.2 with h2 | ⟨g, cap, cur, rfl, h0, hh, r⟩
  · exact .inl h2
  · refine .inr ⟨g, cap, cur, rfl, h0, ?_, r⟩
    have hb : g < w.heap.size := by
      rcases Nat.lt_or_ge g w.heap.size with h' | h'
      · exact h'
      · rw [Array.getElem?_eq_none h'] at hh; cases hh
    rw [k.block g hb (hs g rfl), hh]
theorem owns_same {w w' : World} {base : Nat} {e : TypeId} {size : Nat} {v : Value} {n : Nat} {xs : List Value} (h : w.ownsRow base e size v n xs) (k : Same w w') : w'.ownsRow base e size v n xs := owns_kept h k (fun _ _ h => h)
theorem intsTo_get (f : Nat → Int) (n j : Nat) (h : j < n) : (intsTo f n)[j]? = some (.int .i64 (f j)) := by
  have len : ∀ k, (intsTo f k).length = k := by
    intro k
    induction k with
    | zero => rfl
    | succ k ih => simp [intsTo, ih]
  induction n with
  | zero => exact absurd h (Nat.not_lt_zero _)
  | succ n ih =>
    show (intsTo f n ++ [.int .i64 (f n)])[j]? = _
    rcases Nat.lt_succ_iff_lt_or_eq.1 h with h | rfl
    · rw [List.getElem?_append_left (by rw [len]; exact h), ih h]
    · rw [List.getElem?_append_right (by rw [len]; exact Nat.le_refl _), len]; simp
theorem Grow.row {w : World} {base g cap n : Nat} {f : Nat → Int} (h : Grow w base (some ⟨g, 0, none⟩) cap n f) : Row w g n f :=
  ⟨(h.lt g rfl).2, fun j hj => (World.ownsRow.cellAt h j (by omega)).trans (intsTo_get f n j hj)⟩

end Go.Proofs.YtpfahgogjeignaaGreatDoor
