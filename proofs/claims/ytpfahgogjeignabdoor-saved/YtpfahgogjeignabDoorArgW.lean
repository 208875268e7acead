/-
  The keeper's Set.
-/
import Derived.Test.YtpfahgogjeignabDoorArgR
set_option linter.unusedVariables false
set_option linter.unusedSimpArgs false
namespace Go.Proofs.YtpfahgogjeignabDoor
open Go.ChangeShapes Go.WideShapes Go.ChangeAt Go.RowKit Go.Deep Go.Joins

theorem cells_kset : Tryd.prog.cellsOf 24 = 3 := by kernel_rfl

section
variable {H : Type} {enc : TypeId × Value → H} {w : World} {base : Nat} {held : Bool}

set_option maxRecDepth 100000 in
/-- A Set that is read. -/
theorem open_kset {r : Reach} {b0 : Nat} {v : Value} {d : DataW H} {p : List MemPlace} (hv : Value.okWide Tryd.prog w r b0 24 v) (h : DataW.Trod enc Tryd.prog w base (fun _ => true) held 24 v d p) :
    ∃ (le wi : Int) (a : Option Addr) (n cap : Nat) (R B : Nat → Int), v = .agg #[.int .i64 le, .int .i64 wi, .slice a n cap] ∧ Ten w a n R B ∧ (n = 0 ∨ ∃ d0 d1 elems spare, d = .agg [d0, d1, .slice elems spare] ∧ elems.length = n) := by
  obtain ⟨v0, v1, v2, y0, y1, y2, n, rfl, hd, hp, h0, h1, h2⟩ := open_agg3 Tryd.underlying24 (by kernel_rfl) cells_kset hv h
  obtain ⟨le, e0, _, _⟩ := DataW.trod_int Tryd.underlying3 h0
  obtain ⟨wi, e1, _, _⟩ := DataW.trod_int Tryd.underlying3 h1
  simp only [List.cons.injEq, and_true] at e0 e1
  subst e0; subst e1
  have hs : ∃ a len cap, v2 = .slice a len cap := by
    rcases open_slice Tryd.underlying22 h2 with ⟨hcs, _⟩ | ⟨a', len', cap', _, _, _, _, hcs, _⟩
    · simp only [List.cons.injEq, and_true] at hcs; exact ⟨_, _, _, hcs⟩
    · simp only [List.cons.injEq, and_true] at hcs; exact ⟨_, _, _, hcs⟩
  obtain ⟨a, len, cap, rfl⟩ := hs
  obtain ⟨R, B, hT, hor⟩ := open_tens h2
  refine ⟨le, wi, a, len, cap, R, B, rfl, hT, ?_⟩
  rcases hor with h | ⟨elems, spare, e, hl⟩
  · exact .inl h
  · exact .inr ⟨_, _, elems, spare, by rw [hd, e], hl⟩

/-- Its reach. -/
theorem kset_reach {ts : List TypeId} {ds : List (DataW H)} (hsz : (DataW.weightsEach Tryd.prog ts ds).all (· ≤ reachBytes) = true) {j : Nat} {d : DataW H} (ht : ts[j]? = some 24) (hd : ds[j]? = some d) {n : Nat}
    (h : n = 0 ∨ ∃ d0 d1 elems spare, d = .agg [d0, d1, .slice elems spare] ∧ elems.length = n) : n * 16 ≤ 140737488355328 := by
  rcases h with rfl | ⟨d0, d1, elems, spare, rfl, hl⟩
  · omega
  · have := List.all_eq_true.1 hsz _ (DataW.weights_mem_each ht hd ((elems.length + spare.length) * Tryd.prog.bytesOf 56) (by simp [DataW.weights, DataW.weightsEach, Tryd.underlying24, Tryd.underlying22]))
    have h2 : (elems.length + spare.length) * Tryd.prog.bytesOf 56 ≤ reachBytes := by simpa using this
    rw [bytes_ten] at h2
    have := reachBytes_lt
    omega

end

end Go.Proofs.YtpfahgogjeignabDoor
