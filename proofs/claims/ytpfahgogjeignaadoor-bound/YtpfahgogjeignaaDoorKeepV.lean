/-
  The rows in which Bound notes what was let by: a block of slices, each with a row of its own.
-/
import Derived.Test.YtpfahgogjeignaaDoorKeepB
import Derived.Test.YtpfahgogjeignaaDoorInts
set_option linter.unusedVariables false
set_option linter.unusedSimpArgs false
namespace Go.Proofs.YtpfahgogjeignaaDoor
open Go.RowKit

/-- N rows of numbers behind the slices of one block. -/
structure Rows2 (w : World) (base gy N : Nat) (V : Nat → Value) (Ln : Nat → Nat) (F : Nat → Nat → Int) : Prop where
  blk : BAt w gy 53 (fArr N V)
  row : ∀ r, r < N → w.ownsRow base 3 1 (V r) (Ln r) (intsTo (F r) (Ln r))
  apart : ∀ r r' g, r < N → r' < N → (V r).ownBlock = some g → (V r').ownBlock = some g → r = r'
  low : gy < base

theorem Rows2.kept {S : Nat → Prop} {w w' : World} {base gy N : Nat} {V : Nat → Value} {Ln : Nat → Nat} {F : Nat → Nat → Int} (h : Rows2 w base gy N V Ln F) (k : Kept S w w') (h1 : ¬ S gy) (h2 : ∀ r g, r < N → (V r).ownBlock = some g → ¬ S g) : Rows2 w' base gy N V Ln F :=
  ⟨h.blk.kept k h1, fun r hr => owns_kept (h.row r hr) k (fun g hg => h2 r g hr hg), h.apart, h.low⟩
theorem intsTo_ext {f f' : Nat → Int} : ∀ n, (∀ j, j < n → f j = f' j) → intsTo f n = intsTo f' n := by
  intro n
  induction n with
  | zero => intro _; rfl
  | succ n ih =>
    intro h
    show intsTo f n ++ [.int .i64 (f n)] = intsTo f' n ++ [.int .i64 (f' n)]
    rw [ih (fun j hj => h j (by omega)), h n (by omega)]
theorem intsTo_push (f : Nat → Int) (n : Nat) (x : Int) : intsTo (upd f n x) (n + 1) = intsTo f n ++ [.int .i64 x] := by
  show intsTo (upd f n x) n ++ [.int .i64 (upd f n x n)] = _
  rw [upd_same, intsTo_ext n (fun j hj => upd_other f x (by omega))]
/-- A number is laid behind a row. -/
theorem Rows2.push {w w1 w5 : World} {base gy N : Nat} {V : Nat → Value} {Ln : Nat → Nat} {F : Nat → Nat → Int} (h : Rows2 w base gy N V Ln F) (r : Nat) (hr : r < N) (h1 : Same w w1) (hg : w1.grownBy w5 (V r).ownBlock) (gg cap : Nat) (x : Int)
    (hown : w5.ownsRow base 3 1 (.slice (some ⟨gg, 0, none⟩) (Ln r + 1) cap) (Ln r + 1) (intsTo (F r) (Ln r) ++ [.int .i64 x])) (hat : (V r).ownBlock = some gg ∨ w1.heap.size ≤ gg) :
    Rows2 (w5.setCell ⟨gy, r, none⟩ (.slice (some ⟨gg, 0, none⟩) (Ln r + 1) cap)) base gy N (upd V r (.slice (some ⟨gg, 0, none⟩) (Ln r + 1) cap)) (upd Ln r (Ln r + 1)) (upd F r (upd (F r) (Ln r) x)) ∧
    Kept (fun q => (V r).ownBlock = some q ∨ q = gy) w (w5.setCell ⟨gy, r, none⟩ (.slice (some ⟨gg, 0, none⟩) (Ln r + 1) cap)) := by
  have hgl := h.blk.lt
  have hsz := h1.size
  have k5 : Kept (fun q => (V r).ownBlock = some q) w w5 := ⟨hg.os.trans h1.os, hg.tape.trans h1.tape, hg.output.trans h1.output, Nat.le_trans h1.size hg.size, fun q hq hn => (hg.block q (Nat.lt_of_lt_of_le hq h1.size) (fun e => hn e.symm)).trans (h1.block q hq (fun h => h))⟩
  have lowR : ∀ r' g, r' < N → (V r').ownBlock = some g → base ≤ g ∧ g < w.heap.size := fun r' g hr' hg' => (h.row r' hr').lt g hg'
  have ngy : ∀ r', r' < N → (V r').ownBlock ≠ some gy := by
    intro r' hr' e
    have := (lowR r' gy hr' e).1
    have := h.low
    omega
  have ggl : base ≤ gg := (hown.lt gg rfl).1
  have gne : ¬ gg = gy := by
    have := h.low
    omega
  have b5 : BAt w5 gy 53 (fArr N V) := h.blk.kept k5 (fun e => ngy r hr e)
  have kk : Kept (fun q => (V r).ownBlock = some q ∨ q = gy) w (w5.setCell ⟨gy, r, none⟩ (.slice (some ⟨gg, 0, none⟩) (Ln r + 1) cap)) := Kept.setCell (k5.mono (fun q e => .inl e)) _ (.inl (.inr rfl)) _
  refine ⟨⟨?_, fun r' hr' => ?_, fun r1 r2 g hr1 hr2 e1 e2 => ?_, h.low⟩, kk⟩
  · have := b5.set r (.slice (some ⟨gg, 0, none⟩) (Ln r + 1) cap)
    rw [fArr_set] at this
    exact this
  · by_cases e : r' = r
    · subst e
      rw [upd_same, upd_same, upd_same, intsTo_push]
      refine owns_kept hown (S := fun q => q = gy) (Wrote.set (Kept.refl _ _) _ _) (fun q hq e => gne ?_)
      have hgq : gg = q := by simpa [Value.ownBlock] using hq
      rw [hgq]
      exact e
    · rw [upd_other _ _ e, upd_other _ _ e, upd_other _ _ e]
      refine owns_kept (h.row r' hr') kk (fun q hq hor => ?_)
      rcases hor with hx | hx
      · exact e (h.apart r' r q hr' hr hq hx)
      · rw [hx] at hq
        exact ngy r' hr' hq
  · by_cases f1 : r1 = r <;> by_cases f2 : r2 = r
    · rw [f1, f2]
    · rw [f1, upd_same] at e1
      rw [upd_other _ _ f2] at e2
      have hgg : gg = g := by simpa [Value.ownBlock] using e1
      subst hgg
      rcases hat with ha | ha
      · rw [f1]
        exact h.apart r r2 gg hr hr2 ha e2
      · have := (lowR r2 gg hr2 e2).2
        omega
    · rw [f2, upd_same] at e2
      rw [upd_other _ _ f1] at e1
      have hgg : gg = g := by simpa [Value.ownBlock] using e2
      subst hgg
      rcases hat with ha | ha
      · rw [f2]
        exact h.apart r1 r gg hr1 hr e1 ha
      · have := (lowR r1 gg hr1 e1).2
        omega
    · rw [upd_other _ _ f1] at e1
      rw [upd_other _ _ f2] at e2
      exact h.apart r1 r2 g hr1 hr2 e1 e2
/-- A row is read. -/
theorem Rows2.cell {w : World} {base gy N : Nat} {V : Nat → Value} {Ln : Nat → Nat} {F : Nat → Nat → Int} (h : Rows2 w base gy N V Ln F) (r : Nat) (hr : r < N) (n0 : 0 < Ln r) : ∃ g cap, V r = .slice (some ⟨g, 0, none⟩) (Ln r) cap ∧ g < w.heap.size ∧ ∀ j, j < Ln r → w.cell? ⟨g, j, none⟩ = some (.int .i64 (F r j)) := by
  have hrow := h.row r hr
  rcases hrow.2 with ⟨_, hz⟩ | ⟨g, cap, cur, hv, _⟩
  · omega
  · refine ⟨g, cap, hv, ?_, fun j hj => ?_⟩
    · exact (hrow.lt g (by rw [hv]; rfl)).2
    · rw [hv] at hrow
      exact (World.ownsRow.cellAt hrow j (by omega)).trans (intsTo_get (F r) (Ln r) j hj)
theorem Rows2.slot {w : World} {base gy N : Nat} {V : Nat → Value} {Ln : Nat → Nat} {F : Nat → Nat → Int} (h : Rows2 w base gy N V Ln F) (r : Nat) (hr : r < N) : w.cell? ⟨gy, r, none⟩ = some (V r) := by
  rw [h.blk.cell, fArr_get _ _ _ hr]

theorem info_pas : ((Tryd.prog.info? 53).map fun i => (i.zero, i.size, i.bytes)) = some (some (.agg #[.slice none 0 0, .slice none 0 0]), 2, 48) := by kernel_rfl
theorem made_pas (n : Nat) : madeCells #[Value.slice none 0 0, Value.slice none 0 0] (n * 2) = fArr (n * 2) (fun _ => .slice none 0 0) := by
  unfold madeCells fArr
  apply Array.ext_getElem?
  intro j
  by_cases hj : j < n * 2
  · rcases (by omega : j % 2 = 0 ∨ j % 2 = 1) with h | h <;> simp [hj, h]
  · simp [hj]
theorem make_pas (n : Nat) (hn : n ≤ 4) (w : World) :
    (Instr.makeSlice 42 (.int .i64 (n : Int)) (.int .i64 (n : Int))).run Tryd.prog w = .ok (.slice (some ⟨w.heap.size, 0, none⟩) n n) (w.alloc (.cells (fArr (n * 2) fun _ => .slice none 0 0) 53)) := by
  obtain ⟨i, hi, hz, hs, hb⟩ := info_of info_pas
  have := run_make (P := Tryd.prog) w 42 53 i _ Tryd.underlying42 hi hz .i64 .i64 (n : Int) (n : Int) (by omega) (by omega) (by rw [hb]; omega) (by omega)
  rw [this, hs]
  rw [Int.toNat_natCast]
  rw [show (Value.agg #[.slice none 0 0, .slice none 0 0]).cells = #[Value.slice none 0 0, Value.slice none 0 0] from rfl, made_pas]
theorem rows_made (w : World) (N : Nat) (F : Nat → Nat → Int) : Rows2 (w.alloc (.cells (fArr N fun _ => .slice none 0 0) 53)) (w.heap.size + 1) w.heap.size N (fun _ => .slice none 0 0) (fun _ => 0) F :=
  ⟨BAt.made' _ _ rfl _ _, fun r _ => World.ownsRow_nil _ _ _ _, fun r r' g _ _ h => (by cases h), Nat.lt_succ_self _⟩

end Go.Proofs.YtpfahgogjeignaaDoor
