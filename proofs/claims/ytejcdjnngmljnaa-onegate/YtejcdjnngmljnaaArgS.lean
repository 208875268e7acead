/-
  A Set that comes in: its numbers, its list of tenants.
-/
import Derived.Test.YtejcdjnngmljnaaProF
import Derived.ProofKit
import Derived.OpenShut
import Derived.ChangeOld
import Derived.SizedLaws
import Derived.Lib.SmallJoins
set_option linter.unusedVariables false
set_option linter.unusedSimpArgs false
namespace Go.Proofs.Ytejcdjnngmljnaa
open Go.ChangeShapes Go.WideShapes Go.ChangeAt Go.RowKit Go.Deep Go.Joins

theorem cells_ten : Try.prog.cellsOf 57 = 2 := by kernel_rfl
theorem bytes_ten : Try.prog.bytesOf 57 = 16 := by kernel_rfl
theorem cells_int : Try.prog.cellsOf 3 = 1 := by kernel_rfl
theorem cells_set : Try.prog.cellsOf 24 = 3 := by kernel_rfl

section
variable {H : Type} {enc : TypeId × Value → H} {w : World} {base : Nat} {held : Bool}

set_option maxRecDepth 100000 in
/-- A list of tenants that is read. -/
theorem open_tens {a : Option Addr} {len cap fuel : Nat} {y : DataW H × List MemPlace} (h : DataW.trod enc Try.prog w base (fun _ => true) held fuel 22 [.slice a len cap] = some y) :
    ∃ R B, Ten w a len R B ∧ (len = 0 ∨ ∃ elems spare, y.1 = .slice elems spare ∧ elems.length = len) := by
  rcases open_slice Try.underlying22 h with ⟨hcs, hx⟩ | ⟨a', len', cap', m, n, D, Pl, hcs, hb, hl, hm, hmm, hx, hel⟩
  · simp at hcs
    obtain ⟨rfl, rfl, rfl⟩ := hcs
    exact ⟨fun _ => 0, fun _ => 0, .inl rfl, .inl rfl⟩
  · simp only [List.cons.injEq, Value.slice.injEq, and_true] at hcs
    obtain ⟨ha, h1, h2⟩ := hcs
    subst h1; subst h2; subst ha
    rw [cells_ten] at hel
    simp only [if_true] at hmm
    have one : ∀ i, i < m → ∃ q : Int × Int, w.cell? (a'.add (i * 2)) = some (.int .i64 q.1) ∧ w.cell? (a'.add (i * 2 + 1)) = some (.int .i64 q.2) := by
      intro i hi
      obtain ⟨cs', h1, h2⟩ := hel i hi
      obtain ⟨y0, y1, k, _, hlen, hy0, hy1⟩ := trod_struct2 Try.underlying57 h2
      obtain ⟨_, hl2, hc⟩ := World.cells?_some h1
      match cs', hl2 with
      | [c0, c1], _ =>
        have e0 := hc 0 (by omega)
        have e1 := hc 1 (by omega)
        obtain ⟨x0, f0, _, _⟩ := DataW.trod_int Try.underlying3 hy0
        obtain ⟨x1, f1, _, _⟩ := DataW.trod_int Try.underlying3 hy1
        simp [cells_int] at f0 f1
        subst f0; subst f1
        rw [add_add] at e0 e1
        exact ⟨(x0, x1), by simpa using e0, by simpa using e1⟩
    obtain ⟨q, hq⟩ := choose_lt (α := Int × Int) one
    refine ⟨fun i => (q i).1, fun i => (q i).2, ?_, .inr ⟨_, _, by rw [hx], by simp⟩⟩
    by_cases h0 : len = 0
    · exact .inl h0
    · obtain ⟨b, off, spot⟩ := a'
      have hc0 := (hq 0 (by omega)).1
      have hspot : spot = none := by simpa [Addr.add] using World.cell?_spot hc0
      subst hspot
      have hadd : ∀ j, (⟨b, off, none⟩ : Addr).add j = ⟨b, off + j, none⟩ := fun j => by unfold Addr.add; split <;> simp_all
      refine .inr ⟨b, off, rfl, ?_, fun i hi => ?_, fun i hi => ?_⟩
      · have := World.block_lt_of_cell? w _ hc0
        rw [hadd] at this
        exact this
      · have := (hq i (by omega)).1
        rw [hadd] at this
        exact this
      · have := (hq i (by omega)).2
        rw [hadd, ← Nat.add_assoc] at this
        exact this

set_option maxRecDepth 100000 in
/-- A Set that is read. -/
theorem open_set {r : Reach} {b0 : Nat} {v : Value} {d : DataW H} {p : List MemPlace} (hv : Value.okWide Try.prog w r b0 24 v) (h : DataW.Trod enc Try.prog w base (fun _ => true) held 24 v d p) :
    ∃ (le wi : Int) (a : Option Addr) (n cap : Nat) (R B : Nat → Int), v = .agg #[.int .i64 le, .int .i64 wi, .slice a n cap] ∧ Ten w a n R B ∧ (n = 0 ∨ ∃ d0 d1 elems spare, d = .agg [d0, d1, .slice elems spare] ∧ elems.length = n) := by
  obtain ⟨v0, v1, v2, y0, y1, y2, n, rfl, hd, hp, h0, h1, h2⟩ := open_agg3 Try.underlying24 (by kernel_rfl) cells_set hv h
  obtain ⟨le, e0, _, _⟩ := DataW.trod_int Try.underlying3 h0
  obtain ⟨wi, e1, _, _⟩ := DataW.trod_int Try.underlying3 h1
  simp only [List.cons.injEq, and_true] at e0 e1
  subst e0; subst e1
  have hs : ∃ a len cap, v2 = .slice a len cap := by
    rcases open_slice Try.underlying22 h2 with ⟨hcs, _⟩ | ⟨a', len', cap', _, _, _, _, hcs, _⟩
    · simp only [List.cons.injEq, and_true] at hcs; exact ⟨_, _, _, hcs⟩
    · simp only [List.cons.injEq, and_true] at hcs; exact ⟨_, _, _, hcs⟩
  obtain ⟨a, len, cap, rfl⟩ := hs
  obtain ⟨R, B, hT, hor⟩ := open_tens h2
  refine ⟨le, wi, a, len, cap, R, B, rfl, hT, ?_⟩
  rcases hor with h | ⟨elems, spare, e, hl⟩
  · exact .inl h
  · exact .inr ⟨_, _, elems, spare, by rw [hd, e], hl⟩

/-- Its reach. -/
theorem set_reach {ts : List TypeId} {ds : List (DataW H)} (hsz : (DataW.weightsEach Try.prog ts ds).all (· ≤ reachBytes) = true) {j : Nat} {d : DataW H} (ht : ts[j]? = some 24) (hd : ds[j]? = some d) {n : Nat}
    (h : n = 0 ∨ ∃ d0 d1 elems spare, d = .agg [d0, d1, .slice elems spare] ∧ elems.length = n) : n * 16 ≤ 140737488355328 := by
  rcases h with rfl | ⟨d0, d1, elems, spare, rfl, hl⟩
  · omega
  · have := List.all_eq_true.1 hsz _ (DataW.weights_mem_each ht hd ((elems.length + spare.length) * Try.prog.bytesOf 57) (by simp [DataW.weights, DataW.weightsEach, Try.underlying24, Try.underlying22]))
    have h2 : (elems.length + spare.length) * Try.prog.bytesOf 57 ≤ reachBytes := by simpa using this
    rw [bytes_ten] at h2
    have := reachBytes_lt
    omega
end

end Go.Proofs.Ytejcdjnngmljnaa
