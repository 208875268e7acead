/-
  played: where neither requests nor joins are played.
-/
import Derived.Test.YtilffakkmjdmnaaLawJ
import Derived.Test.YtilffakkmjdmnaaMem
set_option linter.unusedVariables false
set_option linter.unusedSimpArgs false
namespace Go.Proofs.Ytilffakkmjdmnaa
open Go.RowKit

theorem KAt.same {w w' : World} {a : Option Addr} {n : Nat} {l : List Int} (h : KAt w a n l) (k : Below w.heap.size w w') : KAt w' a n l := by
  obtain ⟨h1, h2, h3⟩ := h
  refine ⟨h1, h2, ?_⟩
  rcases h3 with h | ⟨g, rfl, hg, hc⟩
  · exact .inl h
  · exact .inr ⟨g, rfl, Nat.lt_of_lt_of_le hg k.size, fun j hj => (k.cell (p := ⟨g, _, none⟩) hg).trans (hc j hj)⟩

/-- What the kinds must be for the steps to be of those that are proved. -/
def Tame (held out : List Int) : Prop := amongB held 13 = false

set_option maxRecDepth 100000 in
set_option maxHeartbeats 2000000 in
theorem played_any (le wi : Int) (a sa ka oa : Option Addr) (n cap sn scap kn kcap on ocap : Nat) (R B K X Y Z : Nat → Int) (held out : List Int) (w : World) (hT : Ten w a n R B) (hn : n * 16 ≤ 140737488355328) (hsn : sn * 32 ≤ 140737488355328)
    (hS : Scr w sa sn K X Y Z) (hK : KAt w ka kn held) (hO : KAt w oa on out) (tame : Tame held out) :
    Calls Try.prog 16 #[.agg #[.int .i64 le, .int .i64 wi, .slice a n cap], .slice sa sn scap, .slice ka kn kcap, .slice oa on ocap] w fun e w' => e = .returned (.bool true) ∧ Below w.heap.size w w' := by
  rcases Classical.em (Good le wi n R B) with g | no
  · have hsim := sim_fresh g
    have HG : Hid (Good le wi n R B) := g
    have HN : Hid (n * 16 ≤ 140737488355328) := hn
    have HSN : Hid (sn * 32 ≤ 140737488355328) := hsn
    have HT : Hid (Tame held out) := tame
    have s0 : (0 : Int) ≤ (sn : Int) := by omega
    have s1 : (sn : Int) < 9000000000000 := by omega
    clear g hn hsn tame
    go_enter Try.func16, Try.ntmps16
    go_wp2_with fail
    refine (made_yes le wi a n cap R B _ (hT.alloc _) HN.out HG.out).mono ?_
    rintro e w2 ⟨p, b, A, rfl, hp2, hS2, hpl, hbl, hAl⟩
    have hw2 : Same w w2 := (Kept.alloc (Kept.refl _ _) _).trans hS2
    have hb2 := hw2.below (Nat.le_refl _) (fun _ _ h => h)
    have hL2 : Live 0 w.heap.size w2 p b A (PC.fresh le wi n R B n 2 (-1)) (RS.fresh le wi n R B) := ⟨hp2, hsim, hw2.size, by simp at hpl; omega, by simp at hbl; omega, fun g hg => by have := hAl g hg; simp at this; omega, fun _ _ => Nat.le_refl _⟩
    clear hS2 hAl hp2 hsim hw2 hpl hbl
    go_wp2_with fail
    go_loopw [10, 11] (fun x y wr => ∃ i : Nat, i ≤ sn ∧ (∃ o, x = .bool o) ∧ y = .int .i64 i ∧ (∃ A' s' r', Live i w.heap.size wr p b A' s' r') ∧ Below w.heap.size w wr) (fun _ y _ => sn - (intOf y).toNat)
    case atStart => exact ⟨0, by omega, ⟨_, rfl⟩, rfl, ⟨_, _, _, hL2⟩, hb2⟩
    case round =>
      obtain ⟨i, hi, ⟨o, rfl⟩, rfl, ⟨A', s', r', hL⟩, hbr⟩ := hrel
      clear hL2 hb2
      have hSr := hS.same hbr
      have hKr := hK.same hbr
      have hOr := hO.same hbr
      by_cases hlt : i < sn
      · rcases hSr with h0 | ⟨sb, off, rfl, hsb, hcs⟩
        · omega
        obtain ⟨c0, c1, c2, c3⟩ := hcs i hlt
        have hii : (i : Int) < sn := by omega
        clear hcs
        generalize hk : K i = k at *
        clear hk
        have k8h : amongB held k = true → k ≠ 13 := by
          rintro h rfl
          rw [HT.out] at h; cases h
        cases hout : amongB out k
        · cases hheld : amongB held k
          · clear k8h
            cases hq : questB k
            · by_cases k13 : k = 13
              · have e13 : (k == 13) = true := by simp [k13]
                subst k13
                clear e13
                go_wp2_with fail
                refine (among_any ka kn kcap held 13 _ hKr).mono ?_
                rintro e w' ⟨rfl, rfl⟩
                go_wp2_with fail
                refine (among_any oa on ocap out 13 _ hOr).mono ?_
                rintro e w' ⟨rfl, rfl⟩
                go_wp2_with fail
                refine (question_any 13 _).mono ?_
                rintro e w' ⟨rfl, rfl⟩
                go_wp2_with fail
                exact ⟨⟨i + 1, by omega, ⟨_, rfl⟩, by go_num, ⟨_, _, _, hL.later⟩, hbr⟩, by simp [intOf]; omega⟩
              · have e13 : (k == 13) = false := by simp [k13]
                go_wp2_with fail
                refine (among_any ka kn kcap held k _ hKr).mono ?_
                rintro e w' ⟨rfl, rfl⟩
                go_wp2_with fail
                refine (among_any oa on ocap out k _ hOr).mono ?_
                rintro e w' ⟨rfl, rfl⟩
                go_wp2_with fail
                refine (question_any k _).mono ?_
                rintro e w' ⟨rfl, rfl⟩
                go_wp2_with fail
                refine (step_any i w.heap.size p b A' s' r' k _ _ _ (by have := HSN.out; omega) k13 _ hL).mono ?_
                rintro e w5 ⟨rfl, ⟨A5, s5, r5, hL5⟩, hb5⟩
                go_wp2_with fail
                exact ⟨⟨i + 1, by omega, ⟨_, rfl⟩, by go_num, ⟨_, _, _, hL5⟩, hbr.trans hb5⟩, by simp [intOf]; omega⟩
            · go_wp2_with fail
              refine (among_any ka kn kcap held k _ hKr).mono ?_
              rintro e w' ⟨rfl, rfl⟩
              go_wp2_with fail
              refine (among_any oa on ocap out k _ hOr).mono ?_
              rintro e w' ⟨rfl, rfl⟩
              go_wp2_with fail
              refine (question_any k _).mono ?_
              rintro e w' ⟨rfl, rfl⟩
              go_wp2_with fail
              exact ⟨⟨i + 1, by omega, ⟨_, rfl⟩, by go_num, ⟨_, _, _, hL.later⟩, hbr⟩, by simp [intOf]; omega⟩
          · have k13 := k8h hheld
            have e13 : (k == 13) = false := by simp [k13]
            clear k8h
            cases hq : questB k
            · go_wp2_with fail
              refine (among_any ka kn kcap held k _ hKr).mono ?_
              rintro e w' ⟨rfl, rfl⟩
              go_wp2_with fail
              refine (among_any oa on ocap out k _ hOr).mono ?_
              rintro e w' ⟨rfl, rfl⟩
              go_wp2_with fail
              refine (question_any k _).mono ?_
              rintro e w' ⟨rfl, rfl⟩
              go_wp2_with fail
              refine (step_any i w.heap.size p b A' s' r' k _ _ _ (by have := HSN.out; omega) k13 _ hL).mono ?_
              rintro e w5 ⟨rfl, ⟨A5, s5, r5, hL5⟩, hb5⟩
              go_wp2_with fail
              exact ⟨⟨i + 1, by omega, ⟨_, rfl⟩, by go_num, ⟨_, _, _, hL5⟩, hbr.trans hb5⟩, by simp [intOf]; omega⟩
            · go_wp2_with fail
              refine (among_any ka kn kcap held k _ hKr).mono ?_
              rintro e w' ⟨rfl, rfl⟩
              go_wp2_with fail
              refine (among_any oa on ocap out k _ hOr).mono ?_
              rintro e w' ⟨rfl, rfl⟩
              go_wp2_with fail
              refine (question_any k _).mono ?_
              rintro e w' ⟨rfl, rfl⟩
              go_wp2_with fail
              refine (step_any i w.heap.size p b A' s' r' k _ _ _ (by have := HSN.out; omega) k13 _ hL).mono ?_
              rintro e w5 ⟨rfl, ⟨A5, s5, r5, hL5⟩, hb5⟩
              go_wp2_with fail
              exact ⟨⟨i + 1, by omega, ⟨_, rfl⟩, by go_num, ⟨_, _, _, hL5⟩, hbr.trans hb5⟩, by simp [intOf]; omega⟩
        · clear k8h
          cases hq : questB k
          · go_wp2_with fail
            refine (among_any ka kn kcap held k _ hKr).mono ?_
            rintro e w' ⟨rfl, rfl⟩
            go_wp2_with fail
            refine (among_any oa on ocap out k _ hOr).mono ?_
            rintro e w' ⟨rfl, rfl⟩
            go_wp2_with fail
            refine (question_any k _).mono ?_
            rintro e w' ⟨rfl, rfl⟩
            go_wp2_with fail
            exact ⟨⟨i + 1, by omega, ⟨_, rfl⟩, by go_num, ⟨_, _, _, hL.later⟩, hbr⟩, by simp [intOf]; omega⟩
          · go_wp2_with fail
            refine (among_any ka kn kcap held k _ hKr).mono ?_
            rintro e w' ⟨rfl, rfl⟩
            go_wp2_with fail
            refine (among_any oa on ocap out k _ hOr).mono ?_
            rintro e w' ⟨rfl, rfl⟩
            go_wp2_with fail
            refine (question_any k _).mono ?_
            rintro e w' ⟨rfl, rfl⟩
            go_wp2_with fail
            exact ⟨⟨i + 1, by omega, ⟨_, rfl⟩, by go_num, ⟨_, _, _, hL.later⟩, hbr⟩, by simp [intOf]; omega⟩
      · go_wp2_with fail
        go_ret
        exact ⟨rfl, hbr⟩
  · go_enter Try.func16, Try.ntmps16
    go_wp2_with (go_at_call 14; refine (made_no le wi a n cap R B _ (hT.alloc _) hn no).mono ?_; rintro e w2 ⟨rfl, hS2⟩)
    go_ret
    exact ⟨rfl, Kept.below ((Kept.alloc (Kept.refl _ _) _).trans hS2) (Nat.le_refl _) (fun _ _ h => h)⟩

end Go.Proofs.Ytilffakkmjdmnaa
