/-
  played: where neither requests nor joins are played.
-/
import Derived.Test.YtpfahgogjeignaaGreatDoorLawJ
import Derived.Test.YtpfahgogjeignaaGreatDoorMem
set_option linter.unusedVariables false
set_option linter.unusedSimpArgs false
namespace Go.Proofs.YtpfahgogjeignaaGreatDoor
open Go.RowKit
attribute [local go_sem ↓] Go.wp_at_zero Go.wp_at_succ

def amongB (l : List Int) (k : Int) : Bool := l.any (· == k)

def questB (k : Int) : Bool := decide (8 ≤ k) && decide (k ≤ 12)

set_option maxHeartbeats 400000 in
theorem question_any (k : Int) (w : World) :
    Calls Tryz.prog 12 #[.int .i64 k] w fun e w' => e = .returned (.bool (questB k)) ∧ w' = w := by
  by_cases h : 8 ≤ k
  · go_enter Tryz.func12, Tryz.ntmps12
    go_wp2
    go_ret
    exact ⟨by simp [questB, h], rfl⟩
  · go_enter Tryz.func12, Tryz.ntmps12
    go_wp2
    go_ret
    exact ⟨by simp [questB]; omega, rfl⟩

/-- A row of kinds. -/
def KAt (w : World) (a : Option Addr) (n : Nat) (l : List Int) : Prop := n = l.length ∧ n ≤ 5 ∧ (n = 0 ∨ ∃ g, a = some ⟨g, 0, none⟩ ∧ g < w.heap.size ∧ ∀ j (h : j < l.length), w.cell? ⟨g, j, none⟩ = some (.int .i64 l[j]))

set_option maxRecDepth 100000 in
set_option maxHeartbeats 1000000 in
theorem among_any (a : Option Addr) (n cap : Nat) (l : List Int) (k : Int) (w : World) (h : KAt w a n l) :
    Calls Tryz.prog 11 #[.slice a n cap, .int .i64 k] w fun e w' => e = .returned (.bool (amongB l k)) ∧ w' = w := by
  obtain ⟨hn, h5, hor⟩ := h
  have hc : ∀ j (h : j < l.length), ∃ g, a = some ⟨g, 0, none⟩ ∧ w.cell? ⟨g, j, none⟩ = some (.int .i64 l[j]) := by
    intro j hj
    rcases hor with h0 | ⟨g, hg, _, hc⟩
    · omega
    · exact ⟨g, hg, hc j hj⟩
  have HC : Hid (∀ j (h : j < l.length), ∃ g, a = some ⟨g, 0, none⟩ ∧ w.cell? ⟨g, j, none⟩ = some (.int .i64 l[j])) := hc
  have HN : Hid (n = l.length) := hn
  have n5 : (n : Int) ≤ 5 := by omega
  clear hc hn hor
  go_enter Tryz.func11, Tryz.ntmps11
  go_wp2
  go_loop [5] (fun x => ∃ j : Nat, j ≤ n ∧ x = .int .i64 j ∧ ∀ q (h : q < l.length), q < j → l[q] ≠ k) (fun x => n - (intOf x).toNat)
  case atStart => exact ⟨0, by omega, rfl, fun q _ h => absurd h (Nat.not_lt_zero _)⟩
  case round =>
    obtain ⟨j, hj, rfl, hno⟩ := hrel
    have HNO : Hid (∀ q (h : q < l.length), q < j → l[q] ≠ k) := hno
    clear hno
    by_cases hlt : j < n
    · have hjl : j < l.length := by have := HN.out; omega
      obtain ⟨g, rfl, c0⟩ := HC.out j hjl
      have hji : (j : Int) < n := by omega
      by_cases he : l[j] = k
      · have e1 : (l[j] == k) = true := by simp [he]
        have fin : amongB l k = true := List.any_eq_true.2 ⟨l[j], List.getElem_mem hjl, e1⟩
        have FIN : Hid (amongB l k = true) := fin
        rw [he] at c0
        clear fin he e1
        go_wp2
        go_ret
        exact ⟨by rw [FIN.out]; rfl, rfl⟩
      · have e1 : (l[j] == k) = false := by simp [he]
        have HE : Hid (¬ l[j] = k) := he
        clear he
        go_wp2
        refine ⟨⟨j + 1, by omega, by go_num, fun q hq hqj => ?_⟩, by simp [intOf]; omega⟩
        rcases Nat.lt_succ_iff_lt_or_eq.1 hqj with h | h
        · exact HNO.out q hq h
        · subst h; exact HE.out
    · have fin : amongB l k = false := by
        unfold amongB
        rw [List.any_eq_false]
        intro x hx
        obtain ⟨q, hq, rfl⟩ := List.getElem_of_mem hx
        have := HNO.out q hq (by have := HN.out; omega)
        simpa using this
      have FIN : Hid (amongB l k = false) := fin
      clear fin
      go_wp2
      go_ret
      exact ⟨by rw [FIN.out]; rfl, rfl⟩

end Go.Proofs.YtpfahgogjeignaaGreatDoor

namespace Go.Proofs.YtpfahgogjeignaaGreatDoor
open Go.RowKit

theorem KAt.same {w w' : World} {a : Option Addr} {n : Nat} {l : List Int} (h : KAt w a n l) (k : Below w.heap.size w w') : KAt w' a n l := by
  obtain ⟨h1, h2, h3⟩ := h
  refine ⟨h1, h2, ?_⟩
  rcases h3 with h | ⟨g, rfl, hg, hc⟩
  · exact .inl h
  · exact .inr ⟨g, rfl, Nat.lt_of_lt_of_le hg k.size, fun j hj => (k.cell (p := ⟨g, _, none⟩) hg).trans (hc j hj)⟩

/-- What the kinds must be for the steps to be of those that are proved. -/
def Tame (held out : List Int) : Prop := amongB held 13 = false

set_option maxRecDepth 100000 in
set_option maxHeartbeats 2000000 in
theorem played_any (le wi : Int) (a sa ka oa : Option Addr) (n cap sn scap kn kcap on ocap : Nat) (R B K X Y Z : Nat → Int) (held out : List Int) (w : World) (hT : Ten w a n R B) (hn : n * 16 ≤ 140737488355328) (hsn : sn * 32 ≤ 140737488355328)
    (hS : Scr w sa sn K X Y Z) (hK : KAt w ka kn held) (hO : KAt w oa on out) (tame : Tame held out) :
    Calls Tryz.prog 9 #[.agg #[.int .i64 le, .int .i64 wi, .slice a n cap], .slice sa sn scap, .slice ka kn kcap, .slice oa on ocap] w fun e w' => e = .returned (.bool true) ∧ Below w.heap.size w w' := by
  rcases Classical.em (Good le wi n R B) with g | no
  · have hsim := sim_fresh g
    have HG : Hid (Good le wi n R B) := g
    have HN : Hid (n * 16 ≤ 140737488355328) := hn
    have HSN : Hid (sn * 32 ≤ 140737488355328) := hsn
    have HT : Hid (Tame held out) := tame
    have s0 : (0 : Int) ≤ (sn : Int) := by omega
    have s1 : (sn : Int) < 9000000000000 := by omega
    clear g hn hsn tame
    go_enter Tryz.func9, Tryz.ntmps9
    go_wp2_with fail
    refine (made_yes le wi a n cap R B _ (hT.alloc _) HN.out HG.out).mono ?_
    rintro e w2 ⟨p, b, A, rfl, hp2, hS2, hpl, hbl, hAl⟩
    have hw2 : Same w w2 := (Kept.alloc (Kept.refl _ _) _).trans hS2
    have hb2 := hw2.below (Nat.le_refl _) (fun _ _ h => h)
    have hL2 : Live 0 w.heap.size w2 p b A (PC.fresh le wi n R B n 2 (-1)) (RS.fresh le wi n R B) := ⟨hp2, hsim, hw2.size, by simp at hpl; omega, by simp at hbl; omega, fun g hg => by have := hAl g hg; simp at this; omega, fun _ _ => Nat.le_refl _, fun _ => fit_fresh HG.out⟩
    clear hS2 hAl hp2 hsim hw2 hpl hbl
    go_wp2_with fail
    go_loopw [10, 11] (fun x y wr => ∃ i : Nat, i ≤ sn ∧ (∃ o, x = .bool o) ∧ y = .int .i64 i ∧ (∃ A' s' r', Live i w.heap.size wr p b A' s' r') ∧ Below w.heap.size w wr) (fun _ y _ => sn - (intOf y).toNat)
    case atStart => exact ⟨0, by omega, ⟨_, rfl⟩, rfl, ⟨_, _, _, hL2⟩, hb2⟩
    case round =>
      obtain ⟨i, hi, ⟨o, rfl⟩, rfl, ⟨A', s', r', hL⟩, hbr⟩ := hrel
      clear hL2 hb2
      have hSr := hS.same hbr
      have hKr := hK.same hbr
      have hOr := hO.same hbr
      by_cases hlt : i < sn
      · rcases hSr with h0 | ⟨sb, off, rfl, hsb, hcs⟩
        · omega
        obtain ⟨c0, c1, c2, c3⟩ := hcs i hlt
        have hii : (i : Int) < sn := by omega
        clear hcs
        generalize hk : K i = k at *
        clear hk
        have k8h : amongB held k = true → k ≠ 13 := by
          rintro h rfl
          rw [HT.out] at h; cases h
        cases hout : amongB out k
        · cases hheld : amongB held k
          · clear k8h
            cases hq : questB k
            · by_cases k13 : k = 13
              · have e13 : (k == 13) = true := by simp [k13]
                subst k13
                clear e13
                go_wp2_with fail
                refine (among_any ka kn kcap held 13 _ hKr).mono ?_
                rintro e w' ⟨rfl, rfl⟩
                go_wp2_with fail
                refine (among_any oa on ocap out 13 _ hOr).mono ?_
                rintro e w' ⟨rfl, rfl⟩
                go_wp2_with fail
                refine (question_any 13 _).mono ?_
                rintro e w' ⟨rfl, rfl⟩
                go_wp2_with fail
                exact ⟨⟨i + 1, by omega, ⟨_, rfl⟩, by go_num, ⟨_, _, _, hL.later⟩, hbr⟩, by simp [intOf]; omega⟩
              · have e13 : (k == 13) = false := by simp [k13]
                go_wp2_with fail
                refine (among_any ka kn kcap held k _ hKr).mono ?_
                rintro e w' ⟨rfl, rfl⟩
                go_wp2_with fail
                refine (among_any oa on ocap out k _ hOr).mono ?_
                rintro e w' ⟨rfl, rfl⟩
                go_wp2_with fail
                refine (question_any k _).mono ?_
                rintro e w' ⟨rfl, rfl⟩
                go_wp2_with fail
                refine (step_any i w.heap.size p b A' s' r' k _ _ _ (by have := HSN.out; omega) k13 _ hL).mono ?_
                rintro e w5 ⟨rfl, ⟨A5, s5, r5, hL5, _, _⟩, hb5⟩
                go_wp2_with fail
                exact ⟨⟨i + 1, by omega, ⟨_, rfl⟩, by go_num, ⟨_, _, _, hL5⟩, hbr.trans hb5⟩, by simp [intOf]; omega⟩
            · go_wp2_with fail
              refine (among_any ka kn kcap held k _ hKr).mono ?_
              rintro e w' ⟨rfl, rfl⟩
              go_wp2_with fail
              refine (among_any oa on ocap out k _ hOr).mono ?_
              rintro e w' ⟨rfl, rfl⟩
              go_wp2_with fail
              refine (question_any k _).mono ?_
              rintro e w' ⟨rfl, rfl⟩
              go_wp2_with fail
              exact ⟨⟨i + 1, by omega, ⟨_, rfl⟩, by go_num, ⟨_, _, _, hL.later⟩, hbr⟩, by simp [intOf]; omega⟩
          · have k13 := k8h hheld
            have e13 : (k == 13) = false := by simp [k13]
            clear k8h
            cases hq : questB k
            · go_wp2_with fail
              refine (among_any ka kn kcap held k _ hKr).mono ?_
              rintro e w' ⟨rfl, rfl⟩
              go_wp2_with fail
              refine (among_any oa on ocap out k _ hOr).mono ?_
              rintro e w' ⟨rfl, rfl⟩
              go_wp2_with fail
              refine (question_any k _).mono ?_
              rintro e w' ⟨rfl, rfl⟩
              go_wp2_with fail
              refine (step_any i w.heap.size p b A' s' r' k _ _ _ (by have := HSN.out; omega) k13 _ hL).mono ?_
              rintro e w5 ⟨rfl, ⟨A5, s5, r5, hL5, _, _⟩, hb5⟩
              go_wp2_with fail
              exact ⟨⟨i + 1, by omega, ⟨_, rfl⟩, by go_num, ⟨_, _, _, hL5⟩, hbr.trans hb5⟩, by simp [intOf]; omega⟩
            · go_wp2_with fail
              refine (among_any ka kn kcap held k _ hKr).mono ?_
              rintro e w' ⟨rfl, rfl⟩
              go_wp2_with fail
              refine (among_any oa on ocap out k _ hOr).mono ?_
              rintro e w' ⟨rfl, rfl⟩
              go_wp2_with fail
              refine (question_any k _).mono ?_
              rintro e w' ⟨rfl, rfl⟩
              go_wp2_with fail
              refine (step_any i w.heap.size p b A' s' r' k _ _ _ (by have := HSN.out; omega) k13 _ hL).mono ?_
              rintro e w5 ⟨rfl, ⟨A5, s5, r5, hL5, _, _⟩, hb5⟩
              go_wp2_with fail
              exact ⟨⟨i + 1, by omega, ⟨_, rfl⟩, by go_num, ⟨_, _, _, hL5⟩, hbr.trans hb5⟩, by simp [intOf]; omega⟩
        · clear k8h
          cases hq : questB k
          · go_wp2_with fail
            refine (among_any ka kn kcap held k _ hKr).mono ?_
            rintro e w' ⟨rfl, rfl⟩
            go_wp2_with fail
            refine (among_any oa on ocap out k _ hOr).mono ?_
            rintro e w' ⟨rfl, rfl⟩
            go_wp2_with fail
            refine (question_any k _).mono ?_
            rintro e w' ⟨rfl, rfl⟩
            go_wp2_with fail
            exact ⟨⟨i + 1, by omega, ⟨_, rfl⟩, by go_num, ⟨_, _, _, hL.later⟩, hbr⟩, by simp [intOf]; omega⟩
          · go_wp2_with fail
            refine (among_any ka kn kcap held k _ hKr).mono ?_
            rintro e w' ⟨rfl, rfl⟩
            go_wp2_with fail
            refine (among_any oa on ocap out k _ hOr).mono ?_
            rintro e w' ⟨rfl, rfl⟩
            go_wp2_with fail
            refine (question_any k _).mono ?_
            rintro e w' ⟨rfl, rfl⟩
            go_wp2_with fail
            exact ⟨⟨i + 1, by omega, ⟨_, rfl⟩, by go_num, ⟨_, _, _, hL.later⟩, hbr⟩, by simp [intOf]; omega⟩
      · go_wp2_with fail
        go_ret
        exact ⟨rfl, hbr⟩
  · go_enter Tryz.func9, Tryz.ntmps9
    go_wp2_with (go_at_call 10; refine (made_no le wi a n cap R B _ (hT.alloc _) hn no).mono ?_; rintro e w2 ⟨rfl, hS2⟩)
    go_ret
    exact ⟨rfl, Kept.below ((Kept.alloc (Kept.refl _ _) _).trans hS2) (Nat.le_refl _) (fun _ _ h => h)⟩

end Go.Proofs.YtpfahgogjeignaaGreatDoor
