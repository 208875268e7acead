/-
  The statement Waited, out of its walk.
-/
import Derived.Test.YtpfahgogjeignabWaitC
import Derived.Test.YtpfahgogjeignabArgV
import Derived.Test.YtpfahgogjeignabArgX
set_option linter.unusedVariables false
set_option linter.unusedSimpArgs false
namespace Go.Proofs.Ytpfahgogjeignab
open Go.ChangeShapes Go.WideShapes Go.ChangeAt Go.RowKit

namespace waitedDone
theorem own : ownKnob Try.prog.godebug = none := by kernel_rfl
theorem laidOut : laidOutB Try.prog = true := by kernel_rfl

set_option maxRecDepth 100000 in
theorem lifted (os : Os) (started : os.Started) (H : Type) (enc : TypeId × Value → H) :
    ReturnsInHanded {} Try.checked os 3 .any (Rows.waitedSpec.pre6 enc Try.prog Try.f3 Rows.waitedRow.domain false) (Rows.waitedSpec.post enc Try.prog Try.f3 false true false false) := by
  refine returnsInHanded_of_change_sized (C := Try.checked) own started (by kernel_rfl) Try.func3
    (ChangeSpec.witness6 (enc := enc) (C := Try.checked) false ⟨#[], #[.agg #[.int .i64 0, .int .i64 0, .slice none 0 0], .slice none 0 0, .int .i64 0, .int .i64 0], []⟩ 8 (by kernel_rfl) (by kernel_rfl) (by kernel_rfl) (by kernel_rfl)) ?_
  intro W base args ds gs before hval0 hW hcnd hsz _
  have hval : ∀ (j : Nat) t v, Try.f3.params[j]? = some t → args[j]? = some v → Value.okWide Try.prog W .any base t v := hval0
  have hW' := hW
  obtain ⟨p, q, hA0, hV, rfl, hfz, hnd⟩ := hW
  have hA : DataW.TrodAll enc Try.prog W 0 (fun _ => true) true Try.f3.params.toList args.toList ds p := hA0
  rw [Try.params3] at hA hval
  obtain ⟨v0, vs0, d0, ds0, p0, q0, hargs, rfl, rfl, h0, r0⟩ := trodAll_cons hA
  obtain ⟨v1, vs1, d1, ds1, p1, q1, rfl, rfl, rfl, h1, r1⟩ := trodAll_cons r0
  obtain ⟨v2, vs2, d2, ds2, p2, q2, rfl, rfl, rfl, h2, r2⟩ := trodAll_cons r1
  obtain ⟨v3, vs3, d3, ds3, p3, q3, rfl, rfl, rfl, h3, r3⟩ := trodAll_cons r2
  obtain ⟨rfl, rfl, rfl⟩ := trodAll_nil r3
  obtain rfl : args = #[v0, v1, v2, v3] := by cases args; simp_all
  obtain ⟨rfl, rfl⟩ := trodVars_none hV
  have k0 := h0
  have k1 := h1
  have k2 := h2
  have k3 := h3
  have lt0 : ∀ x ∈ p0, x.block < W.heap.size := by obtain ⟨m, hm⟩ := k0; exact DataW.trod_lt m _ _ _ hm
  have lt1 : ∀ x ∈ p1, x.block < W.heap.size := by obtain ⟨m, hm⟩ := k1; exact DataW.trod_lt m _ _ _ hm
  have lt2' : ∀ x ∈ p2, x.block < W.heap.size := by obtain ⟨m, hm⟩ := k2; exact DataW.trod_lt m _ _ _ hm
  have lt3' : ∀ x ∈ p3, x.block < W.heap.size := by obtain ⟨m, hm⟩ := k3; exact DataW.trod_lt m _ _ _ hm
  obtain ⟨le, wi, a, n, cap, R, B, rfl, hT, hor⟩ := open_kset (hval 0 24 v0 rfl rfl) h0
  obtain ⟨sa, sn, scap, K, X, Y, Z, rfl, hS, hor2⟩ := open_kscript (hval 1 25 v1 rfl rfl) h1
  obtain ⟨ten, rfl, hti⟩ : ∃ x, v2 = .int .i64 x ∧ InW x := by
    obtain ⟨x, rfl⟩ := okWide_int Try.underlying3 (hval 2 3 v2 rfl rfl)
    obtain ⟨m, hm⟩ := h2
    obtain ⟨x', f', _, g'⟩ := DataW.trod_int Try.underlying3 hm
    simp [Value.cells] at f'
    subst f'
    exact ⟨x, rfl, inW_of g'⟩
  obtain ⟨cost, rfl, hci⟩ : ∃ x, v3 = .int .i64 x ∧ InW x := by
    obtain ⟨x, rfl⟩ := okWide_int Try.underlying3 (hval 3 3 v3 rfl rfl)
    obtain ⟨m, hm⟩ := h3
    obtain ⟨x', f', _, g'⟩ := DataW.trod_int Try.underlying3 hm
    simp [Value.cells] at f'
    subst f'
    exact ⟨x, rfl, inW_of g'⟩
  have hn := kset_reach (j := 0) hsz rfl rfl hor
  have hsn := kscript_reach (j := 1) hsz rfl rfl hor2
  clear hA0 hval0
  refine (waited_walk le wi ten cost hti hci a sa n cap sn scap R B K X Y Z W hT hn hsn hS).mono fun e W' ⟨he, bel⟩ => ?_
  subst he
  exact ⟨_, rfl, _, _, _, [], _, [], hW', trodAll_mk1 (shut_bool Try.underlying4 _), (trodAll_cons_mk (Below.trod laidOut (by kernel_rfl) (of_decide_eq_true (by kernel_rfl)) k0 bel lt0) (trodAll_cons_mk (Below.trod laidOut (by kernel_rfl) (of_decide_eq_true (by kernel_rfl)) k1 bel lt1) (trodAll_cons_mk (Below.trod laidOut (by kernel_rfl) (of_decide_eq_true (by kernel_rfl)) k2 bel lt2') (trodAll_cons_mk (Below.trod laidOut (by kernel_rfl) (of_decide_eq_true (by kernel_rfl)) k3 bel lt3') trodAll_mk0)))), rfl, bel.frame _, fun h => by cases h⟩

theorem over : Rows.waitedRow.holds Try.pinned (OpenSpec.ofChange Rows.waitedSpec) :=
  OpenClaim.holds_of_wide 3 Try.f3 rfl rfl rfl rfl rfl rfl rfl ⟨rfl, rfl, rfl, rfl, rfl⟩ rfl rfl rfl rfl rfl (by kernel_rfl) Try.func3 (by kernel_rfl)
    (of_decide_eq_true (by kernel_rfl)) (by unfold Func.isWrapper; first | (rw [if_pos (by decide +kernel)]; kernel_rfl) | (rw [if_neg (by decide +kernel)]; exact ⟨rfl, rfl⟩))
    (fun os started H enc _ => lifted os started H enc)

end waitedDone

/-- The statement. -/
theorem waited_proved : Rows.WaitedSaid := waitedDone.over
#print axioms waited_proved
end Go.Proofs.Ytpfahgogjeignab
