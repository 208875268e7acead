/-
  The keeper's script.
-/
import Derived.Test.YtpfahgogjeignabDoorArgW
import Derived.Test.YtpfahgogjeignabDoorMem
set_option linter.unusedVariables false
set_option linter.unusedSimpArgs false
namespace Go.Proofs.YtpfahgogjeignabDoor
open Go.ChangeShapes Go.WideShapes Go.ChangeAt Go.RowKit Go.Deep Go.Joins

theorem cells_kop : Tryd.prog.cellsOf 38 = 4 := by kernel_rfl
theorem bytes_kop : Tryd.prog.bytesOf 38 = 32 := by kernel_rfl

section
variable {H : Type} {enc : TypeId × Value → H} {w : World} {base : Nat} {held : Bool}

set_option maxRecDepth 100000 in
theorem open_kscript {r : Reach} {b0 : Nat} {v : Value} {d : DataW H} {p : List MemPlace} (hv : Value.okWide Tryd.prog w r b0 25 v) (h : DataW.Trod enc Tryd.prog w base (fun _ => true) held 25 v d p) :
    ∃ (a : Option Addr) (n cap : Nat) (K X Y Z : Nat → Int), v = .slice a n cap ∧ Scr w a n K X Y Z ∧ (n = 0 ∨ ∃ elems spare, d = .slice elems spare ∧ elems.length = n) := by
  obtain ⟨a, len, cap, rfl⟩ := okWide_slice Tryd.underlying25 hv
  obtain ⟨fuel, hf⟩ := h
  refine ⟨a, len, cap, ?_⟩
  rcases open_slice Tryd.underlying25 hf with ⟨hcs, hx⟩ | ⟨a', len', cap', m, n, D, Pl, hcs, hb, hl, hm, hmm, hx, hel⟩
  · simp [Value.cells] at hcs
    obtain ⟨rfl, rfl, rfl⟩ := hcs
    exact ⟨fun _ => 0, fun _ => 0, fun _ => 0, fun _ => 0, rfl, .inl rfl, .inl rfl⟩
  · simp [Value.cells] at hcs
    obtain ⟨ha, h1, h2⟩ := hcs
    subst h1; subst h2; subst ha
    rw [cells_kop] at hel
    simp only [if_true] at hmm
    have one : ∀ i, i < m → ∃ q : Int × Int × Int × Int, w.cell? (a'.add (i * 4)) = some (.int .i64 q.1) ∧ w.cell? (a'.add (i * 4 + 1)) = some (.int .i64 q.2.1) ∧ w.cell? (a'.add (i * 4 + 2)) = some (.int .i64 q.2.2.1) ∧ w.cell? (a'.add (i * 4 + 3)) = some (.int .i64 q.2.2.2) := by
      intro i hi
      obtain ⟨cs', h1, h2⟩ := hel i hi
      obtain ⟨y0, y1, y2, y3, k, _, hlen, hy0, hy1, hy2, hy3⟩ := trod_struct4 Tryd.underlying38 h2
      obtain ⟨_, hl2, hc⟩ := World.cells?_some h1
      match cs', hl2 with
      | [c0, c1, c2, c3], _ =>
        have e0 := hc 0 (by omega)
        have e1 := hc 1 (by omega)
        have e2 := hc 2 (by omega)
        have e3 := hc 3 (by omega)
        obtain ⟨x0, f0, _, _⟩ := DataW.trod_int Tryd.underlying3 hy0
        obtain ⟨x1, f1, _, _⟩ := DataW.trod_int Tryd.underlying3 hy1
        obtain ⟨x2, f2, _, _⟩ := DataW.trod_int Tryd.underlying3 hy2
        obtain ⟨x3, f3, _, _⟩ := DataW.trod_int Tryd.underlying3 hy3
        simp [cells_int] at f0 f1 f2 f3
        subst f0; subst f1; subst f2; subst f3
        rw [add_add] at e0 e1 e2 e3
        exact ⟨(x0, x1, x2, x3), by simpa using e0, by simpa using e1, by simpa using e2, by simpa using e3⟩
    obtain ⟨q, hq⟩ := choose_lt (α := Int × Int × Int × Int) one
    refine ⟨fun i => (q i).1, fun i => (q i).2.1, fun i => (q i).2.2.1, fun i => (q i).2.2.2, rfl, ?_, .inr ⟨_, _, (Prod.mk.injEq _ _ _ _ ▸ hx).1, by simp⟩⟩
    by_cases h0 : len = 0
    · exact .inl h0
    · obtain ⟨b, off, spot⟩ := a'
      have hc0 := (hq 0 (by omega)).1
      have hspot : spot = none := by simpa [Addr.add] using World.cell?_spot hc0
      subst hspot
      have hadd : ∀ j, (⟨b, off, none⟩ : Addr).add j = ⟨b, off + j, none⟩ := fun j => by unfold Addr.add; split <;> simp_all
      refine .inr ⟨b, off, rfl, ?_, fun i hi => ?_⟩
      · have := World.block_lt_of_cell? w _ hc0
        rw [hadd] at this
        exact this
      · obtain ⟨g0, g1, g2, g3⟩ := hq i (by omega)
        rw [hadd] at g0 g1 g2 g3
        exact ⟨g0, by rw [Nat.add_assoc]; exact g1, by rw [Nat.add_assoc]; exact g2, by rw [Nat.add_assoc]; exact g3⟩

theorem kscript_reach {ts : List TypeId} {ds : List (DataW H)} (hsz : (DataW.weightsEach Tryd.prog ts ds).all (· ≤ reachBytes) = true) {j : Nat} {d : DataW H} (ht : ts[j]? = some 25) (hd : ds[j]? = some d) {n : Nat}
    (h : n = 0 ∨ ∃ elems spare, d = .slice elems spare ∧ elems.length = n) : n * 32 ≤ 140737488355328 := by
  rcases h with rfl | ⟨elems, spare, rfl, hl⟩
  · omega
  · have h2 := sized_slice hsz ht hd Tryd.underlying25
    rw [bytes_kop] at h2
    have := reachBytes_lt
    omega

end

end Go.Proofs.YtpfahgogjeignabDoor
