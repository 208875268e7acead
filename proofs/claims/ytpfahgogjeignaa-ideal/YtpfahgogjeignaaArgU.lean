/-
  What the keeper's statements are handed.
-/
import Derived.Test.YtpfahgogjeignaaArgW
import Derived.Test.YtpfahgogjeignaaKeepD
set_option linter.unusedVariables false
set_option linter.unusedSimpArgs false
namespace Go.Proofs.Ytpfahgogjeignaa
open Go.ChangeShapes Go.WideShapes Go.ChangeAt Go.RowKit Go.Deep Go.Joins

theorem cells_req : Try.prog.cellsOf 52 = 3 := by kernel_rfl
theorem bytes_req : Try.prog.bytesOf 52 = 24 := by kernel_rfl
theorem inR_of {x : Int} (h : (Lit.int .i64 x).wf = true) : InR x := by
  unfold Lit.wf at h
  have e0 : IntKind.min .i64 = -9223372036854775808 := by decide
  have e1 : IntKind.max .i64 = 9223372036854775807 := by decide
  simp only [e0, e1, Bool.and_eq_true, decide_eq_true_eq] at h
  exact h

section
variable {H : Type} {enc : TypeId × Value → H} {w : World} {base : Nat} {held : Bool}

set_option maxRecDepth 100000 in
theorem open_reqs {r : Reach} {b0 : Nat} {v : Value} {d : DataW H} {p : List MemPlace} (hv : Value.okWide Try.prog w r b0 46 v) (h : DataW.Trod enc Try.prog w base (fun _ => true) held 46 v d p) :
    ∃ (a : Option Addr) (n cap : Nat) (G T C : Nat → Int), v = .slice a n cap ∧ Reqs w a n G T C ∧ (n = 0 ∨ ∃ elems spare, d = .slice elems spare ∧ elems.length = n) := by
  obtain ⟨a, len, cap, rfl⟩ := okWide_slice Try.underlying46 hv
  obtain ⟨fuel, hf⟩ := h
  refine ⟨a, len, cap, ?_⟩
  rcases open_slice Try.underlying46 hf with ⟨hcs, hx⟩ | ⟨a', len', cap', m, n, D, Pl, hcs, hb, hl, hm, hmm, hx, hel⟩
  · simp [Value.cells] at hcs
    obtain ⟨rfl, rfl, rfl⟩ := hcs
    exact ⟨fun _ => 0, fun _ => 0, fun _ => 0, rfl, .inl rfl, .inl rfl⟩
  · simp [Value.cells] at hcs
    obtain ⟨ha, h1, h2⟩ := hcs
    subst h1; subst h2; subst ha
    rw [cells_req] at hel
    simp only [if_true] at hmm
    have one : ∀ i, i < m → ∃ q : Int × Int × Int, (w.cell? (a'.add (i * 3)) = some (.int .i64 q.1) ∧ w.cell? (a'.add (i * 3 + 1)) = some (.int .i64 q.2.1) ∧ w.cell? (a'.add (i * 3 + 2)) = some (.int .i64 q.2.2)) ∧ InR q.1 ∧ InR q.2.1 ∧ InR q.2.2 := by
      intro i hi
      obtain ⟨cs', h1, h2⟩ := hel i hi
      obtain ⟨y0, y1, y2, k, _, hlen, hy0, hy1, hy2⟩ := trod_struct3 Try.underlying52 h2
      obtain ⟨_, hl2, hc⟩ := World.cells?_some h1
      match cs', hl2 with
      | [c0, c1, c2], _ =>
        have e0 := hc 0 (by omega)
        have e1 := hc 1 (by omega)
        have e2 := hc 2 (by omega)
        obtain ⟨x0, f0, _, g0⟩ := DataW.trod_int Try.underlying3 hy0
        obtain ⟨x1, f1, _, g1⟩ := DataW.trod_int Try.underlying3 hy1
        obtain ⟨x2, f2, _, g2⟩ := DataW.trod_int Try.underlying3 hy2
        simp [cells_int] at f0 f1 f2
        subst f0; subst f1; subst f2
        rw [add_add] at e0 e1 e2
        exact ⟨(x0, x1, x2), ⟨by simpa using e0, by simpa using e1, by simpa using e2⟩, inR_of g0, inR_of g1, inR_of g2⟩
    obtain ⟨q, hq⟩ := choose_lt (α := Int × Int × Int) one
    refine ⟨fun i => (q i).1, fun i => (q i).2.1, fun i => (q i).2.2, rfl, ?_, .inr ⟨_, _, (Prod.mk.injEq _ _ _ _ ▸ hx).1, by simp⟩⟩
    by_cases h0 : len = 0
    · exact .inl h0
    · obtain ⟨b, off, spot⟩ := a'
      have hc0 := (hq 0 (by omega)).1.1
      have hspot : spot = none := by simpa [Addr.add] using World.cell?_spot hc0
      subst hspot
      have hadd : ∀ j, (⟨b, off, none⟩ : Addr).add j = ⟨b, off + j, none⟩ := fun j => by unfold Addr.add; split <;> simp_all
      refine .inr ⟨b, off, rfl, ?_, fun i hi => ?_⟩
      · have := World.block_lt_of_cell? w _ hc0
        rw [hadd] at this
        exact this
      · obtain ⟨⟨g0, g1, g2⟩, r0, r1, r2⟩ := hq i (by omega)
        rw [hadd] at g0 g1 g2
        exact ⟨g0, by rw [Nat.add_assoc]; exact g1, by rw [Nat.add_assoc]; exact g2, r0, r1, r2⟩

theorem reqs_reach {ts : List TypeId} {ds : List (DataW H)} (hsz : (DataW.weightsEach Try.prog ts ds).all (· ≤ reachBytes) = true) {j : Nat} {d : DataW H} (ht : ts[j]? = some 46) (hd : ds[j]? = some d) {n : Nat}
    (h : n = 0 ∨ ∃ elems spare, d = .slice elems spare ∧ elems.length = n) : n * 24 ≤ 140737488355328 := by
  rcases h with rfl | ⟨elems, spare, rfl, hl⟩
  · omega
  · have h2 := sized_slice hsz ht hd Try.underlying46
    rw [bytes_req] at h2
    have := reachBytes_lt
    omega
end

end Go.Proofs.Ytpfahgogjeignaa
