/-
  The statement Garbage, out of its walk.
-/
import Derived.Test.YtpfahgogjeignabDoorGarB
import Derived.Test.YtpfahgogjeignabDoorArgV
import Derived.Test.YtpfahgogjeignabDoorArgX
import Derived.Test.YtpfahgogjeignabDoorLai
import Derived.Test.YtpfahgogjeignabDoorCards
import Derived.Test.YtpfahgogjeignabDoorTie
import Derived.SevenTiedAt
set_option linter.unusedVariables false
set_option linter.unusedSimpArgs false
namespace Go.Proofs.YtpfahgogjeignabDoor
open Go.ChangeShapes Go.WideShapes Go.ChangeAt Go.ChangeMaps Go.RowKit

namespace garbageDone
theorem own : ownKnob Tryd.prog.godebug = none := by kernel_rfl
theorem laidOut : laidOutB Tryd.prog = true := by kernel_rfl

set_option maxRecDepth 100000 in
theorem lifted (os : Os) (started : os.Started) (H : Type) (enc : TypeId × Value → H) :
    ReturnsInHanded {} Tryd.checked os 4 .any (fun w args => (Rows.garbageSpec.pre enc Tryd.prog Tryd.f4 [] false w args ∧ laidMetH Tryd.prog lai w) ∧ sizedMet enc Tryd.prog Tryd.f4 (OpenSpec.ofChange Rows.garbageSpec) false w args) (Rows.garbageSpec.post enc Tryd.prog Tryd.f4 false true false false) := by
  refine returnsInHanded_of_change_and (C := Tryd.checked) (X := fun w _ => laidMetH Tryd.prog lai w) (fun _ _ _ hh h => h.of_heap hh) own started (by kernel_rfl) Tryd.func4
    (ChangeSpec.witness_shaped (enc := enc) (C := Tryd.checked) (os := os) (X := fun w _ => laidMetH Tryd.prog lai w) false (World.doorLaid Tryd.prog 4000 os) #[.agg #[.int .i64 0, .int .i64 0, .slice none 0 0], .slice none 0 0, .string ⟨#[]⟩, .int .i64 0, .int .i64 0] 8 rfl (World.shaped_of_RefB (by kernel_rfl) (by kernel_rfl)) (by kernel_rfl) (by kernel_rfl) (by kernel_rfl) (door_met os _)) ?_
  intro W base args ds gs before hval0 hW hcnd hsz hLd _
  have hval : ∀ (j : Nat) t v, Tryd.f4.params[j]? = some t → args[j]? = some v → Value.okWide Tryd.prog W .any base t v := hval0
  have hW' := hW
  obtain ⟨p, q, hA0, hV, rfl, hfz, hnd⟩ := hW
  have hA : DataW.TrodAll enc Tryd.prog W 0 (fun _ => true) true Tryd.f4.params.toList args.toList ds p := hA0
  rw [Tryd.params4] at hA hval
  obtain ⟨v0, vs0, d0, ds0, p0, q0, hargs, rfl, rfl, h0, r0⟩ := trodAll_cons hA
  obtain ⟨v1, vs1, d1, ds1, p1, q1, rfl, rfl, rfl, h1, r1⟩ := trodAll_cons r0
  obtain ⟨v2, vs2, d2, ds2, p2, q2, rfl, rfl, rfl, h2, r2⟩ := trodAll_cons r1
  obtain ⟨v3, vs3, d3, ds3, p3, q3, rfl, rfl, rfl, h3, r3⟩ := trodAll_cons r2
  obtain ⟨v4, vs4, d4, ds4, p4, q4, rfl, rfl, rfl, h4, r4⟩ := trodAll_cons r3
  obtain ⟨rfl, rfl, rfl⟩ := trodAll_nil r4
  obtain rfl : args = #[v0, v1, v2, v3, v4] := by cases args; simp_all
  obtain ⟨rfl, rfl⟩ := trodVars_none hV
  have k0 := h0
  have k1 := h1
  have k2 := h2
  have k3 := h3
  have k4 := h4
  have lt0' : ∀ x ∈ p0, x.block < W.heap.size := by obtain ⟨m, hm⟩ := k0; exact DataW.trod_lt m _ _ _ hm
  have lt1' : ∀ x ∈ p1, x.block < W.heap.size := by obtain ⟨m, hm⟩ := k1; exact DataW.trod_lt m _ _ _ hm
  have lt2' : ∀ x ∈ p2, x.block < W.heap.size := by obtain ⟨m, hm⟩ := k2; exact DataW.trod_lt m _ _ _ hm
  have lt3' : ∀ x ∈ p3, x.block < W.heap.size := by obtain ⟨m, hm⟩ := k3; exact DataW.trod_lt m _ _ _ hm
  have lt4' : ∀ x ∈ p4, x.block < W.heap.size := by obtain ⟨m, hm⟩ := k4; exact DataW.trod_lt m _ _ _ hm
  obtain ⟨le0, wi0, a0, n0, cap0, R0, B0, rfl, hT0, hor0⟩ := open_kset (hval 0 24 v0 rfl rfl) h0
  obtain ⟨sa1, sn1, scap1, K1, X1, Y1, Z1, rfl, hS1, hor1⟩ := open_kscript (hval 1 25 v1 rfl rfl) h1
  obtain ⟨T2, rfl, hd2, _, _⟩ := open_string Tryd.underlying9 (hval 2 9 v2 rfl rfl) h2
  subst hd2
  obtain ⟨x3, rfl, hx3⟩ : ∃ x, v3 = .int .i64 x ∧ InW x := by
    obtain ⟨x, rfl⟩ := okWide_int Tryd.underlying3 (hval 3 3 v3 rfl rfl)
    obtain ⟨m, hm⟩ := h3
    obtain ⟨x', f', _, g'⟩ := DataW.trod_int Tryd.underlying3 hm
    simp [Value.cells] at f'
    subst f'
    exact ⟨x, rfl, inW_of g'⟩
  obtain ⟨x4, rfl, hx4⟩ : ∃ x, v4 = .int .i64 x ∧ InW x := by
    obtain ⟨x, rfl⟩ := okWide_int Tryd.underlying3 (hval 4 3 v4 rfl rfl)
    obtain ⟨m, hm⟩ := h4
    obtain ⟨x', f', _, g'⟩ := DataW.trod_int Tryd.underlying3 hm
    simp [Value.cells] at f'
    subst f'
    exact ⟨x, rfl, inW_of g'⟩
  have hn0 := kset_reach (j := 0) hsz rfl rfl hor0
  have hn1 := kscript_reach (j := 1) hsz rfl rfl hor1
  have hJ2 : T2.size ≤ 140737488355328 := by
    have h7 := sized_string (j := 2) hsz rfl rfl
    rw [← Go.Lib.size_eq] at h7
    have h8 : reachBytes ≤ 140737488355328 := by decide
    omega
  clear hA0 hval0
  refine (garbage_walk le0 wi0 x3 x4 hx3 hx4 T2 a0 sa1 n0 cap0 sn1 scap1 R0 B0 K1 X1 Y1 Z1 W hT0 hn0 hn1 hS1 hJ2 (lib_of_laid hLd)).mono fun e W' ⟨he, bel⟩ => ?_
  subst he
  exact ⟨_, rfl, _, _, _, [], _, [], hW', trodAll_mk1 (shut_bool Tryd.underlying4 _), (trodAll_cons_mk (Below.trod laidOut (by kernel_rfl) (of_decide_eq_true (by kernel_rfl)) k0 bel lt0') (trodAll_cons_mk (Below.trod laidOut (by kernel_rfl) (of_decide_eq_true (by kernel_rfl)) k1 bel lt1') (trodAll_cons_mk (Below.trod laidOut (by kernel_rfl) (of_decide_eq_true (by kernel_rfl)) k2 bel lt2') (trodAll_cons_mk (Below.trod laidOut (by kernel_rfl) (of_decide_eq_true (by kernel_rfl)) k3 bel lt3') (trodAll_cons_mk (Below.trod laidOut (by kernel_rfl) (of_decide_eq_true (by kernel_rfl)) k4 bel lt4') trodAll_mk0))))), rfl, bel.frame _, fun h => by cases h⟩

theorem over : Rows.garbageRow.holds Tryd.pinned (OpenSpec.ofChange Rows.garbageSpec) :=
  OpenClaim.holds_of_wide 4 Tryd.f4 rfl rfl rfl rfl rfl rfl rfl ⟨rfl, rfl, rfl, rfl, rfl⟩ rfl rfl rfl rfl rfl (by kernel_rfl) Tryd.func4 (by kernel_rfl)
    (of_decide_eq_true (by kernel_rfl)) (by unfold Func.isWrapper; first | (rw [if_pos (by decide +kernel)]; kernel_rfl) | (rw [if_neg (by decide +kernel)]; exact ⟨rfl, rfl⟩))
    (fun os started H enc _ => lifted os started H enc)

theorem plain (f : FuncId) (fn : Func) (hf : Tryd.pinned.checked.prog.funcNamed "tollgate/tollgatekeep.Garbage" = some f) (hfn : Tryd.pinned.checked.prog.funcs[f]? = some fn) :
    false = Tryd.pinned.checked.prog.looks [] ∧ ∀ (j : Nat) t, fn.params[j]? = some t → Tryd.pinned.checked.prog.wantsStandIn t = false := by
  obtain rfl : f = 4 := Option.some.inj ((show Tryd.prog.funcNamed "tollgate/tollgatekeep.Garbage" = some 4 by kernel_rfl).symm.trans hf) |>.symm
  obtain rfl : fn = Tryd.f4 := (Option.some.inj (Tryd.func4.symm.trans hfn)).symm
  refine ⟨by kernel_rfl, fun j t ht => ?_⟩
  have hm : t ∈ Tryd.f4.params.toList := by simpa using Array.mem_of_getElem? ht
  have hall : (Tryd.f4.params.toList.all fun u => !Tryd.prog.wantsStandIn u) = true := by kernel_rfl
  exact (show Tryd.prog.wantsStandIn t = false by simpa using List.all_eq_true.1 hall t hm)

end garbageDone

/-- The statement. -/
theorem garbage_proved : Rows.GarbageCardSaid :=
  Claim7.holds_tied_plain_at .later [] _ _ _ _ garbageDone.over (fun _ h => by cases h) (by kernel_rfl) (fun _ h => by cases h) garbage_row_tie rfl ⟨rfl, rfl⟩ (by kernel_rfl) rfl garbageDone.plain (by kernel_rfl)
#print axioms garbage_proved
end Go.Proofs.YtpfahgogjeignabDoor
