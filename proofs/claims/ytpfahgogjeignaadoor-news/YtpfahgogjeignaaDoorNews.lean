/-
  The statement News, out of its walk.
-/
import Derived.Test.YtpfahgogjeignaaDoorLawG
import Derived.Test.YtpfahgogjeignaaDoorArgS
import Derived.Test.YtpfahgogjeignaaDoorLai
import Derived.Test.YtpfahgogjeignaaDoorCards
import Derived.Test.YtpfahgogjeignaaDoorTie
import Derived.SevenTiedAt
set_option linter.unusedVariables false
set_option linter.unusedSimpArgs false
namespace Go.Proofs.YtpfahgogjeignaaDoor
open Go.RowKit

set_option maxRecDepth 100000 in
set_option maxHeartbeats 2000000 in
theorem news_any (le wi : Int) (a : Option Addr) (n cap : Nat) (R B : Nat → Int) (w : World) (hT : Ten w a n R B) (hn : n * 16 ≤ 140737488355328) :
    Calls Tryd.prog 3 #[.agg #[.int .i64 le, .int .i64 wi, .slice a n cap]] w fun e w' => e = .returned (.bool true) ∧ Same w w' := by
  rcases Classical.em (Good le wi n R B) with g | no
  · have hsim := sim_fresh g
    have n4 := g.ten.2.1
    have HG : Hid (Good le wi n R B) := g
    have HN : Hid (n * 16 ≤ 140737488355328) := hn
    clear g hn
    go_enter Tryd.func3, Tryd.ntmps3
    go_wp2_with fail
    refine (made_yes le wi a n cap R B _ (hT.alloc _) HN.out HG.out).mono ?_
    rintro e w2 ⟨p, b, A, rfl, hp2, hS2, hpl, hbl, hAl⟩
    have hs2 : BAt w2 w.heap.size 24 #[.int .i64 le, .int .i64 wi, .slice a n cap] := (BAt.made' _ _ rfl _ _).kept hS2 (fun h => h)
    have hw2 : Same w w2 := (Kept.alloc (Kept.refl _ _) _).trans hS2
    clear hS2 hAl
    go_wp2_with fail
    have hpw := hp2
    go_loopw [4, 5] (fun x y wr => ∃ i : Nat, i ≤ 2 ∧ x = .bool true ∧ y = .int .i64 i ∧ Same w2 wr) (fun _ y _ => 2 - (intOf y).toNat)
    case atStart => exact ⟨0, by omega, rfl, rfl, Kept.refl _ _⟩
    case round =>
      obtain ⟨i, hi, rfl, rfl, hSr⟩ := hrel
      have hpr := hp2.same hSr
      by_cases hlt : i < 2
      · have hii : (i : Int) < 2 := by omega
        go_wp2_with fail
        refine (step_tells p b A _ _ 11 _ _ _ (by omega) (by omega) _ hpr hsim).mono ?_
        rintro e w3 ⟨rfl, hS3⟩
        have hS23 := hSr.trans hS3
        clear hSr hS3 hpr
        go_wp2_with fail
        go_loopw [4, 6] (fun x y wr => ∃ k : Nat, k ≤ n ∧ x = .bool true ∧ y = .int .i64 k ∧ Same w2 wr) (fun _ y _ => n - (intOf y).toNat)
        case atStart => exact ⟨0, by omega, rfl, rfl, hS23⟩
        case round =>
          obtain ⟨k, hk, rfl, rfl, hSk⟩ := hrel
          have hpk := hp2.same hSk
          have hsk := hs2.kept hSk (fun h => h)
          have hskc := hsk.cell
          by_cases hlk : k < n
          · have hki : (k : Int) < n := by omega
            go_wp2_with fail
            refine (step_tells p b A _ _ 12 _ _ _ (by omega) (by omega) _ hpk hsim).mono ?_
            rintro e w4 ⟨rfl, hS4⟩
            go_wp2_with fail
            exact ⟨⟨k + 1, by omega, rfl, by go_num, hSk.trans hS4⟩, by simp [intOf]; omega⟩
          · go_wp2_with fail
            exact ⟨⟨i + 1, by omega, rfl, by go_num, hSk⟩, by simp [intOf]; omega⟩
      · go_wp2_with fail
        refine (step_tells p b A _ _ 9 _ _ _ (by omega) (by omega) _ hpr hsim).mono ?_
        rintro e w3 ⟨rfl, hS3⟩
        go_wp2_with fail
        refine (step_tells p b A _ _ 10 _ _ _ (by omega) (by omega) _ (hpr.same hS3) hsim).mono ?_
        rintro e w4 ⟨rfl, hS4⟩
        go_wp2_with fail
        go_ret
        exact ⟨rfl, ((hw2.trans hSr).trans hS3).trans hS4⟩
  · go_enter Tryd.func3, Tryd.ntmps3
    go_wp2_with (go_at_call 7; refine (made_no le wi a n cap R B _ (hT.alloc _) hn no).mono ?_; rintro e w2 ⟨rfl, hS2⟩)
    go_ret
    exact ⟨rfl, (Kept.alloc (Kept.refl _ _) _).trans hS2⟩

end Go.Proofs.YtpfahgogjeignaaDoor

namespace Go.Proofs.YtpfahgogjeignaaDoor
open Go.ChangeShapes Go.WideShapes Go.ChangeAt Go.RowKit

theorem Same.below {w w' : World} (h : Same w w') : Below w.heap.size w w' := Kept.below h (Nat.le_refl _) (fun _ _ h => h)

namespace newsDone
theorem own : ownKnob Tryd.prog.godebug = none := by kernel_rfl
theorem laidOut : laidOutB Tryd.prog = true := by kernel_rfl

set_option maxRecDepth 100000 in
theorem lifted (os : Os) (started : os.Started) (H : Type) (enc : TypeId × Value → H) :
    ReturnsInHanded {} Tryd.checked os 3 .any (fun w args => (Rows.newsSpec.pre enc Tryd.prog Tryd.f3 [] false w args ∧ laidMetH Tryd.prog lai w) ∧ sizedMet enc Tryd.prog Tryd.f3 (OpenSpec.ofChange Rows.newsSpec) false w args) (Rows.newsSpec.post enc Tryd.prog Tryd.f3 false true false false) := by
  refine returnsInHanded_of_change_and (C := Tryd.checked) (X := fun w _ => laidMetH Tryd.prog lai w) (fun _ _ _ hh h => h.of_heap hh) own started (by kernel_rfl) Tryd.func3
    (ChangeSpec.witness_shaped (enc := enc) (C := Tryd.checked) (os := os) (X := fun w _ => laidMetH Tryd.prog lai w) false (World.doorLaid Tryd.prog 4000 os) #[.agg #[.int .i64 0, .int .i64 0, .slice none 0 0]] 8 rfl (World.shaped_of_RefB (by kernel_rfl) (by kernel_rfl)) (by kernel_rfl) (by kernel_rfl) (by kernel_rfl) (door_met os _)) ?_
  intro W base args ds gs before hval0 hW hcnd hsz hLd _
  have hval : ∀ (j : Nat) t v, Tryd.f3.params[j]? = some t → args[j]? = some v → Value.okWide Tryd.prog W .any base t v := hval0
  have hW' := hW
  obtain ⟨p, q, hA0, hV, rfl, hfz, hnd⟩ := hW
  have hA : DataW.TrodAll enc Tryd.prog W 0 (fun _ => true) true Tryd.f3.params.toList args.toList ds p := hA0
  rw [Tryd.params3] at hA hval
  obtain ⟨v0, vs0, d0, ds0, p0, q0, hargs, rfl, rfl, h0, r0⟩ := trodAll_cons hA
  obtain ⟨rfl, rfl, rfl⟩ := trodAll_nil r0
  obtain rfl : args = #[v0] := by cases args; simp_all
  obtain ⟨rfl, rfl⟩ := trodVars_none hV
  have k0 := h0
  have lt0 : ∀ x ∈ p0, x.block < W.heap.size := by obtain ⟨m, hm⟩ := k0; exact DataW.trod_lt m _ _ _ hm
  obtain ⟨le, wi, a, n, cap, R, B, rfl, hT, hor⟩ := open_set (hval 0 24 v0 rfl rfl) h0
  have hn := set_reach (j := 0) hsz rfl rfl hor
  clear hA0 hval0
  refine (news_any le wi a n cap R B W hT hn).mono fun e W' ⟨he, hk⟩ => ?_
  have bel := Same.below hk
  subst he
  exact ⟨_, rfl, _, _, _, [], _, [], hW', trodAll_mk1 (shut_bool Tryd.underlying4 _), (trodAll_cons_mk (Below.trod laidOut (by kernel_rfl) (of_decide_eq_true (by kernel_rfl)) k0 bel lt0) trodAll_mk0), rfl, bel.frame _, fun h => by cases h⟩

theorem over : Rows.newsRow.holds Tryd.pinned (OpenSpec.ofChange Rows.newsSpec) :=
  OpenClaim.holds_of_wide 3 Tryd.f3 rfl rfl rfl rfl rfl rfl rfl ⟨rfl, rfl, rfl, rfl, rfl⟩ rfl rfl rfl rfl rfl (by kernel_rfl) Tryd.func3 (by kernel_rfl)
    (of_decide_eq_true (by kernel_rfl)) (by unfold Func.isWrapper; first | (rw [if_pos (by decide +kernel)]; kernel_rfl) | (rw [if_neg (by decide +kernel)]; exact ⟨rfl, rfl⟩))
    (fun os started H enc _ => lifted os started H enc)

theorem plain (f : FuncId) (fn : Func) (hf : Tryd.pinned.checked.prog.funcNamed "tollgate/tollgatelaw.News" = some f) (hfn : Tryd.pinned.checked.prog.funcs[f]? = some fn) :
    false = Tryd.pinned.checked.prog.looks [] ∧ ∀ (j : Nat) t, fn.params[j]? = some t → Tryd.pinned.checked.prog.wantsStandIn t = false := by
  obtain rfl : f = 3 := Option.some.inj ((show Tryd.prog.funcNamed "tollgate/tollgatelaw.News" = some 3 by kernel_rfl).symm.trans hf) |>.symm
  obtain rfl : fn = Tryd.f3 := (Option.some.inj (Tryd.func3.symm.trans hfn)).symm
  refine ⟨by kernel_rfl, fun j t ht => ?_⟩
  have hm : t ∈ Tryd.f3.params.toList := by simpa using Array.mem_of_getElem? ht
  have hall : (Tryd.f3.params.toList.all fun u => !Tryd.prog.wantsStandIn u) = true := by kernel_rfl
  exact (show Tryd.prog.wantsStandIn t = false by simpa using List.all_eq_true.1 hall t hm)

end newsDone

/-- The statement. -/
theorem news_proved : Rows.NewsCardSaid :=
  Claim7.holds_tied_plain_at .later [] _ _ _ _ newsDone.over (fun _ h => by cases h) (by kernel_rfl) (fun _ h => by cases h) news_row_tie rfl ⟨rfl, rfl⟩ (by kernel_rfl) rfl newsDone.plain (by kernel_rfl)
#print axioms news_proved
end Go.Proofs.YtpfahgogjeignaaDoor
