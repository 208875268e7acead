/-
  What a statement is handed: tenants.
-/
import Derived.Test.YtpfahgogjeignabDoorProF
import Derived.ProofKit
import Derived.OpenShut
import Derived.ChangeOld
import Derived.SizedLaws
import Derived.Lib.SmallJoins
set_option linter.unusedVariables false
set_option linter.unusedSimpArgs false
namespace Go.Proofs.YtpfahgogjeignabDoor
open Go.ChangeShapes Go.WideShapes Go.ChangeAt Go.RowKit Go.Deep Go.Joins

theorem cells_ten : Tryd.prog.cellsOf 56 = 2 := by kernel_rfl
theorem bytes_ten : Tryd.prog.bytesOf 56 = 16 := by kernel_rfl
theorem cells_int : Tryd.prog.cellsOf 3 = 1 := by kernel_rfl

section
variable {H : Type} {enc : TypeId × Value → H} {w : World} {base : Nat} {held : Bool}

set_option maxRecDepth 100000 in
/-- A list of tenants that is read. -/
theorem open_tens {a : Option Addr} {len cap fuel : Nat} {y : DataW H × List MemPlace} (h : DataW.trod enc Tryd.prog w base (fun _ => true) held fuel 22 [.slice a len cap] = some y) :
    ∃ R B, Ten w a len R B ∧ (len = 0 ∨ ∃ elems spare, y.1 = .slice elems spare ∧ elems.length = len) := by
  rcases open_slice Tryd.underlying22 h with ⟨hcs, hx⟩ | ⟨a', len', cap', m, n, D, Pl, hcs, hb, hl, hm, hmm, hx, hel⟩
  · simp at hcs
    obtain ⟨rfl, rfl, rfl⟩ := hcs
    exact ⟨fun _ => 0, fun _ => 0, .inl rfl, .inl rfl⟩
  · simp only [List.cons.injEq, Value.slice.injEq, and_true] at hcs
    obtain ⟨ha, h1, h2⟩ := hcs
    subst h1; subst h2; subst ha
    rw [cells_ten] at hel
    simp only [if_true] at hmm
    have one : ∀ i, i < m → ∃ q : Int × Int, w.cell? (a'.add (i * 2)) = some (.int .i64 q.1) ∧ w.cell? (a'.add (i * 2 + 1)) = some (.int .i64 q.2) := by
      intro i hi
      obtain ⟨cs', h1, h2⟩ := hel i hi
      obtain ⟨y0, y1, k, _, hlen, hy0, hy1⟩ := trod_struct2 Tryd.underlying56 h2
      obtain ⟨_, hl2, hc⟩ := World.cells?_some h1
      match cs', hl2 with
      | [c0, c1], _ =>
        have e0 := hc 0 (by omega)
        have e1 := hc 1 (by omega)
        obtain ⟨x0, f0, _, _⟩ := DataW.trod_int Tryd.underlying3 hy0
        obtain ⟨x1, f1, _, _⟩ := DataW.trod_int Tryd.underlying3 hy1
        simp [cells_int] at f0 f1
        subst f0; subst f1
        rw [add_add] at e0 e1
        exact ⟨(x0, x1), by simpa using e0, by simpa using e1⟩
    obtain ⟨q, hq⟩ := choose_lt (α := Int × Int) one
    refine ⟨fun i => (q i).1, fun i => (q i).2, ?_, .inr ⟨_, _, by rw [hx], by simp⟩⟩
    by_cases h0 : len = 0
    · exact .inl h0
    · obtain ⟨b, off, spot⟩ := a'
      have hc0 := (hq 0 (by omega)).1
      have hspot : spot = none := by simpa [Addr.add] using World.cell?_spot hc0
      subst hspot
      have hadd : ∀ j, (⟨b, off, none⟩ : Addr).add j = ⟨b, off + j, none⟩ := fun j => by unfold Addr.add; split <;> simp_all
      refine .inr ⟨b, off, rfl, ?_, fun i hi => ?_, fun i hi => ?_⟩
      · have := World.block_lt_of_cell? w _ hc0
        rw [hadd] at this
        exact this
      · have := (hq i (by omega)).1
        rw [hadd] at this
        exact this
      · have := (hq i (by omega)).2
        rw [hadd, ← Nat.add_assoc] at this
        exact this

end

end Go.Proofs.YtpfahgogjeignabDoor
