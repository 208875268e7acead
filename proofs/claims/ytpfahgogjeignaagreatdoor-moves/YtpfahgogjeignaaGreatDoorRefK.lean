/-
  The document's secured.
-/
import Derived.Test.YtpfahgogjeignaaGreatDoorRefJ
import Derived.Test.YtpfahgogjeignaaGreatDoorRefE
set_option linter.unusedVariables false
set_option linter.unusedSimpArgs false
namespace Go.Proofs.YtpfahgogjeignaaGreatDoor
open Go.RowKit
attribute [local go_sem] rg0 rg1 rg2 rg3 rg4 rg5 rg6 rg7 rg8 rg9 rg10 sg0 sg1 sg2 sg3 sg4 sg5 mg0 mg1 mg2 mgk fArr_get

def RS.soloed (s : RS) : RS := { s with solo := true }
def RS.aloned (s : RS) (i : Nat) : RS := s.withSide i (s.up i) (s.sep i) (s.stil i) true (s.win i)
/-- The second message of securing. -/
def RS.second (s : RS) (i : Nat) : Bool × RS :=
  (s.answered i 2, if s.answered i 2 then s.soloed.aloned i else if s.arrives i 2 then s.soloed else s)
/-- Securing so much: does it come about, and what is left. -/
def RS.secured (s : RS) (i k : Nat) (amt : Int) : Bool × RS :=
  if s.alone i then (true, s)
  else if s.answered i (1 - i) then (true, s.did (1 - i) k amt false)
  else if s.arrives i (1 - i) then (s.did (1 - i) k amt false).second i
  else s.second i

theorem RStep.trans {n : Nat} {A A' A'' : RA} {w w' w'' : World} (h : RStep n A A' w w') (k : RStep n A' A'' w' w'') : RStep n A A'' w w'' := by
  refine ⟨k.c.trans h.c, k.side.trans h.side, ?_, ?_⟩
  · refine ⟨k.kept.os.trans h.kept.os, k.kept.tape.trans h.kept.tape, k.kept.output.trans h.kept.output, Nat.le_trans h.kept.size k.kept.size, fun g hg hn => ?_⟩
    refine (k.kept.block g (Nat.lt_of_lt_of_le hg h.kept.size) (fun e => ?_)).trans (h.kept.block g hg hn)
    rcases h.new g e with h' | h'
    · exact hn h'
    · omega
  · intro g hg
    rcases k.new g hg with h' | h'
    · exact h.new g h'
    · exact .inr (Nat.le_trans h.kept.size h')

theorem RStep.at {n m : Nat} {A A' : RA} {w w' : World} (e : n = m) (h : RStep n A A' w w') : RStep m A A' w w' := by rw [← e]; exact h
theorem RAt.toSolo {w : World} {A : RA} {s : RS} (h : RAt w A s) : RAt (w.setCell ⟨A.c, 8, none⟩ (.bool true)) A s.soloed ∧ RStep s.n A A w (w.setCell ⟨A.c, 8, none⟩ (.bool true)) := by
  have k : Kept (fun g => g = A.c) w (w.setCell ⟨A.c, 8, none⟩ (.bool true)) := Wrote.set (Kept.refl _ _) _ _
  exact ⟨h.setC s.now s.holder s.epoch s.til true k (h.c.set _ _), rfl, rfl, k.mono (fun g e => in_all (by rw [e]; simp [RA.all])), fun _ h => .inl h⟩
theorem sArr_alone (A : RA) (s : RS) (i : Nat) : (sArr A s i).setIfInBounds 3 (.bool true) = sArr (A.withWin i (A.win i)) (s.aloned i) i := by
  unfold sArr RS.aloned RS.withSide RA.withWin
  simp [upd_same]
theorem RAt.toAlone {w : World} {A : RA} {s : RS} (h : RAt w A s) (i : Nat) (i2 : i < 2) : RAt (w.setCell ⟨A.side i, 3, none⟩ (.bool true)) (A.withWin i (A.win i)) (s.aloned i) ∧ RStep s.n A (A.withWin i (A.win i)) w (w.setCell ⟨A.side i, 3, none⟩ (.bool true)) := by
  have k : Kept (fun x => x = A.side i) w (w.setCell ⟨A.side i, 3, none⟩ (.bool true)) := Wrote.set (Kept.refl _ _) _ _
  have hb := (h.side i i2).set 3 (.bool true)
  rw [sArr_alone] at hb
  exact ⟨h.setSide i (A.win i) i2 _ _ _ _ _ k hb (.inl rfl) ((h.win i i2).kept k (win_ne_side h i i2)), RStep.win _ _ (k.mono (fun g e => by rw [e]; exact side_in i2)) (.inl (win_in i2)) i2⟩

theorem did_keeps (s : RS) (i k : Nat) (amt : Int) (put : Bool) (j : Nat) : (s.did i k amt put).arrives j 2 = s.arrives j 2 ∧ (s.did i k amt put).answered j 2 = s.answered j 2 ∧ (s.did i k amt put).n = s.n := ⟨rfl, rfl, rfl⟩

set_option maxRecDepth 100000 in
set_option maxHeartbeats 1000000 in
theorem rsecured_any (A : RA) (s : RS) (i k amt : Int) (h0 : 0 ≤ i) (h2 : i < 2) (k0 : 0 ≤ k) (kn : k < s.n) (w : World) (h : RAt w A s) (hroom : ∀ j, ((s.past j k.toNat).length + 1) * 24 ≤ 140737488355328) :
    Calls Tryz.prog 74 #[.pointer (some ⟨A.c, 0, none⟩), .int .i64 i, .int .i64 k, .int .i64 amt] w fun e w' => e = .returned (.bool (s.secured i.toNat k.toNat amt).1) ∧ ∃ A', RAt w' A' (s.secured i.toNat k.toNat amt).2 ∧ RStep s.n A A' w w' := by
  have hC := h.c.cell
  have i2 : i.toNat < 2 := by omega
  have hS := (h.side i.toNat i2).cell
  have hp := h.sp i.toNat i2
  have hi := lt2 h0 h2
  have ej : (1 - i).toNat = 1 - i.toNat := by omega
  have HRM : Hid (∀ j, ((s.past j k.toNat).length + 1) * 24 ≤ 140737488355328) := hroom
  clear hroom
  cases hal : s.alone i.toNat
  · have hs1 := rsent_any A s i (1 - i) hi (.inr rfl) w h
    rw [ej] at hs1
    have HS1 : Hid (Calls Tryz.prog 64 #[.pointer (some ⟨A.c, 0, none⟩), .int .i64 i, .int .i64 (1 - i)] w fun e' w' => e' = .returned (.tuple #[.bool (s.arrives i.toNat (1 - i.toNat)), .bool (s.answered i.toNat (1 - i.toNat))]) ∧ w' = w) := hs1
    have hd := rdone_any A s (1 - i) k amt false (by omega) (by omega) k0 kn w h (by rw [ej]; exact HRM.out _)
    rw [ej] at hd
    have HD : Hid (Calls Tryz.prog 75 #[.pointer (some ⟨A.c, 0, none⟩), .int .i64 (1 - i), .int .i64 k, .int .i64 amt, .bool false] w fun e w' => e = .returned (.tuple #[]) ∧ ∃ A', RAt w' A' (s.did (1 - i.toNat) k.toNat amt false) ∧ RStep s.n A A' w w') := hd
    clear hs1 hd ej
    cases har : s.arrives i.toNat (1 - i.toNat)
    · have han : s.answered i.toNat (1 - i.toNat) = false := by simp [RS.answered, har]
      have fin : s.secured i.toNat k.toNat amt = s.second i.toNat := by simp [RS.secured, hal, har, han]
      have FIN : Hid (s.secured i.toNat k.toNat amt = s.second i.toNat) := fin
      clear fin
      go_enter Tryz.func74, Tryz.ntmps74
      go_wp2_with fail
      refine HS1.out.mono ?_
      rintro e w' ⟨rfl, rfl⟩
      have st3 : RStep s.n A A w' w' := RStep.refl _ _ (Kept.refl _ _)
      have hs2 := rsent_any A s i 2 hi (.inl rfl) w' h
      have hC3 := h.c.cell
      have hF3 := h.c.free
      have hS3 := (h.side i.toNat i2).cell
      have hG3 := (h.side i.toNat i2).free
      have ts := h.toSolo
      have ta := ts.1.toAlone i.toNat i2
      have hcs : ¬ A.c = A.side i.toNat := by
        intro e
        have a1 := h.c
        have a2 := h.side i.toNat i2
        unfold BAt at a1 a2
        rw [e, a2] at a1
        simp at a1
      have hsc : ¬ A.side i.toNat = A.c := fun e => hcs e.symm
      have TS : Hid (RAt (w'.setCell ⟨A.c, 8, none⟩ (.bool true)) A s.soloed ∧ RStep s.n A A w' (w'.setCell ⟨A.c, 8, none⟩ (.bool true))) := ts
      have TA : Hid (RAt ((w'.setCell ⟨A.c, 8, none⟩ (.bool true)).setCell ⟨A.side i.toNat, 3, none⟩ (.bool true)) (A.withWin i.toNat (A.win i.toNat)) (s.soloed.aloned i.toNat) ∧ RStep s.soloed.n A (A.withWin i.toNat (A.win i.toNat)) (w'.setCell ⟨A.c, 8, none⟩ (.bool true)) ((w'.setCell ⟨A.c, 8, none⟩ (.bool true)).setCell ⟨A.side i.toNat, 3, none⟩ (.bool true))) := ta
      have HS2 : Hid (Calls Tryz.prog 64 #[.pointer (some ⟨A.c, 0, none⟩), .int .i64 i, .int .i64 2] w' fun e' y => e' = .returned (.tuple #[.bool (s.arrives i.toNat 2), .bool (s.answered i.toNat 2)]) ∧ y = w') := hs2
      have ST : Hid (RStep s.n A A w' w') := st3
      clear ts ta hs2 st3
      cases ha2 : s.arrives i.toNat 2
      · have hw2 : s.answered i.toNat 2 = false := by simp [RS.answered, ha2]
        go_wp2_with fail
        refine HS2.out.mono ?_
        rintro e w4 ⟨rfl, hw4⟩
        subst hw4
        go_wp2_with fail
        go_ret
        rw [FIN.out]
        simp only [RS.second, ha2, hw2]
        exact ⟨rfl, A, h, ST.out⟩
      · cases hw2 : s.answered i.toNat 2
        · go_wp2_with fail
          refine HS2.out.mono ?_
          rintro e w4 ⟨rfl, hw4⟩
          subst hw4
          go_wp2_with fail
          go_ret
          rw [FIN.out]
          simp only [RS.second, ha2, hw2]
          exact ⟨rfl, A, TS.out.1, ST.out.trans TS.out.2⟩
        · go_wp2_with fail
          refine HS2.out.mono ?_
          rintro e w4 ⟨rfl, hw4⟩
          subst hw4
          go_wp2_with fail
          go_ret
          rw [FIN.out]
          simp only [RS.second, hw2]
          exact ⟨rfl, _, TA.out.1, (ST.out.trans TS.out.2).trans TA.out.2⟩
    · cases han : s.answered i.toNat (1 - i.toNat)
      · have fin : s.secured i.toNat k.toNat amt = (s.did (1 - i.toNat) k.toNat amt false).second i.toNat := by simp [RS.secured, hal, har, han]
        generalize hs1e : s.did (1 - i.toNat) k.toNat amt false = s1 at *
        have hn1 : s1.n = s.n := by rw [← hs1e]; rfl
        clear hs1e
        have FIN : Hid (s.secured i.toNat k.toNat amt = s1.second i.toNat) := fin
        clear fin
        go_enter Tryz.func74, Tryz.ntmps74
        go_wp2_with fail
        refine HS1.out.mono ?_
        rintro e w' ⟨rfl, rfl⟩
        go_wp2_with fail
        refine HD.out.mono ?_
        rintro e w3 ⟨rfl, A3, hr3, st3⟩
        have hcc := st3.c
        have hss := congrFun st3.side i.toNat
        have hs2 := rsent_any A3 s1 i 2 hi (.inl rfl) w3 hr3
        have hC3 := hr3.c.cell
        have hF3 := hr3.c.free
        have hS3 := (hr3.side i.toNat i2).cell
        have hG3 := (hr3.side i.toNat i2).free
        have ts := hr3.toSolo
        have ta := ts.1.toAlone i.toNat i2
        have hcs : ¬ A3.c = A3.side i.toNat := by
          intro e
          have a1 := hr3.c
          have a2 := hr3.side i.toNat i2
          unfold BAt at a1 a2
          rw [e, a2] at a1
          simp at a1
        rw [hcc] at hs2 hC3 hF3 ts ta hcs
        rw [hss] at hS3 hG3 ta hcs
        have hsc : ¬ A.side i.toNat = A.c := fun e => hcs e.symm
        have TS : Hid (RAt (w3.setCell ⟨A.c, 8, none⟩ (.bool true)) A3 s1.soloed ∧ RStep s1.n A3 A3 w3 (w3.setCell ⟨A.c, 8, none⟩ (.bool true))) := ts
        have TA : Hid (RAt ((w3.setCell ⟨A.c, 8, none⟩ (.bool true)).setCell ⟨A.side i.toNat, 3, none⟩ (.bool true)) (A3.withWin i.toNat (A3.win i.toNat)) (s1.soloed.aloned i.toNat) ∧ RStep s1.soloed.n A3 (A3.withWin i.toNat (A3.win i.toNat)) (w3.setCell ⟨A.c, 8, none⟩ (.bool true)) ((w3.setCell ⟨A.c, 8, none⟩ (.bool true)).setCell ⟨A.side i.toNat, 3, none⟩ (.bool true))) := ta
        have HS2 : Hid (Calls Tryz.prog 64 #[.pointer (some ⟨A.c, 0, none⟩), .int .i64 i, .int .i64 2] w3 fun e' y => e' = .returned (.tuple #[.bool (s1.arrives i.toNat 2), .bool (s1.answered i.toNat 2)]) ∧ y = w3) := hs2
        have ST : Hid (RStep s.n A A3 w' w3) := st3
        clear ts ta hs2 hcc hss st3
        cases ha2 : s1.arrives i.toNat 2
        · have hw2 : s1.answered i.toNat 2 = false := by simp [RS.answered, ha2]
          go_wp2_with fail
          refine HS2.out.mono ?_
          rintro e w4 ⟨rfl, hw4⟩
          subst hw4
          go_wp2_with fail
          go_ret
          rw [FIN.out]
          simp only [RS.second, ha2, hw2]
          exact ⟨rfl, A3, hr3, ST.out⟩
        · cases hw2 : s1.answered i.toNat 2
          · go_wp2_with fail
            refine HS2.out.mono ?_
            rintro e w4 ⟨rfl, hw4⟩
            subst hw4
            go_wp2_with fail
            go_ret
            rw [FIN.out]
            simp only [RS.second, ha2, hw2]
            exact ⟨rfl, A3, TS.out.1, ST.out.trans (RStep.at hn1 TS.out.2)⟩
          · go_wp2_with fail
            refine HS2.out.mono ?_
            rintro e w4 ⟨rfl, hw4⟩
            subst hw4
            go_wp2_with fail
            go_ret
            rw [FIN.out]
            simp only [RS.second, hw2]
            exact ⟨rfl, _, TA.out.1, (ST.out.trans (RStep.at hn1 TS.out.2)).trans (RStep.at hn1 TA.out.2)⟩
      · have fin : s.secured i.toNat k.toNat amt = (true, s.did (1 - i.toNat) k.toNat amt false) := by simp [RS.secured, hal, han]
        have FIN : Hid (s.secured i.toNat k.toNat amt = (true, s.did (1 - i.toNat) k.toNat amt false)) := fin
        clear fin
        go_enter Tryz.func74, Tryz.ntmps74
        go_wp2_with fail
        refine HS1.out.mono ?_
        rintro e w' ⟨rfl, rfl⟩
        go_wp2_with fail
        refine HD.out.mono ?_
        rintro e w3 ⟨rfl, A3, hr3, st3⟩
        go_wp2_with fail
        go_ret
        rw [FIN.out]
        exact ⟨rfl, A3, hr3, st3⟩
  · have e : s.secured i.toNat k.toNat amt = (true, s) := by simp [RS.secured, hal]
    rw [e]
    clear e
    go_enter Tryz.func74, Tryz.ntmps74
    go_wp2_with fail
    go_ret
    exact ⟨rfl, A, h, RStep.refl _ _ (Kept.refl _ _)⟩

end Go.Proofs.YtpfahgogjeignaaGreatDoor
