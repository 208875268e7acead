/-
  Moves and Leases: their walks.
-/
import Derived.Test.YtpfahgogjeignaaGreatDoorLawK
set_option linter.unusedVariables false
set_option linter.unusedSimpArgs false
namespace Go.Proofs.YtpfahgogjeignaaGreatDoor
open Go.RowKit

theorem kat_of {w : World} {g : Nat} {l : List Int} (h : BAt w g 3 (l.map (Value.int .i64)).toArray) (h5 : l.length ≤ 5) : KAt w (some ⟨g, 0, none⟩) l.length l := by
  refine ⟨rfl, h5, .inr ⟨g, rfl, h.lt, fun j hj => ?_⟩⟩
  rw [h.cell]
  simp [hj]

set_option maxRecDepth 100000 in
set_option maxHeartbeats 1000000 in
theorem moves_walk (le wi : Int) (a sa : Option Addr) (n cap sn scap : Nat) (R B K X Y Z : Nat → Int) (w : World) (hT : Ten w a n R B) (hn : n * 16 ≤ 140737488355328) (hsn : sn * 32 ≤ 140737488355328) (hS : Scr w sa sn K X Y Z) :
    Calls Tryz.prog 3 #[.agg #[.int .i64 le, .int .i64 wi, .slice a n cap], .slice sa sn scap] w fun e w' => e = .returned (.bool true) ∧ Below w.heap.size w w' := by
  have tame : Tame [1, 2, 3, 4, 9] [6, 7] := rfl
  have hb3 : Below w.heap.size w (((w.alloc (.cells #[.int .i64 le, .int .i64 wi, .slice a n cap] 24)).alloc (.cells #[.int .i64 1, .int .i64 2, .int .i64 3, .int .i64 4, .int .i64 9] 3)).alloc (.cells #[.int .i64 6, .int .i64 7] 3)) := (((Below.refl _ _).alloc (Nat.le_refl _) _).alloc (by simp) _).alloc (by simp; omega) _
  have k1 : BAt (((w.alloc (.cells #[.int .i64 le, .int .i64 wi, .slice a n cap] 24)).alloc (.cells #[.int .i64 1, .int .i64 2, .int .i64 3, .int .i64 4, .int .i64 9] 3)).alloc (.cells #[.int .i64 6, .int .i64 7] 3)) (w.heap.size + 1) 3 (([1, 2, 3, 4, 9] : List Int).map (Value.int .i64)).toArray := (BAt.made' _ _ (by simp) _ _).alloc _
  have k2 : BAt (((w.alloc (.cells #[.int .i64 le, .int .i64 wi, .slice a n cap] 24)).alloc (.cells #[.int .i64 1, .int .i64 2, .int .i64 3, .int .i64 4, .int .i64 9] 3)).alloc (.cells #[.int .i64 6, .int .i64 7] 3)) (w.heap.size + 1 + 1) 3 (([6, 7] : List Int).map (Value.int .i64)).toArray := BAt.made' _ _ (by simp) _ _
  have hP := played_any le wi a sa (some ⟨w.heap.size + 1, 0, none⟩) (some ⟨w.heap.size + 1 + 1, 0, none⟩) n cap sn scap 5 5 2 2 R B K X Y Z [1, 2, 3, 4, 9] [6, 7] (((w.alloc (.cells #[.int .i64 le, .int .i64 wi, .slice a n cap] 24)).alloc (.cells #[.int .i64 1, .int .i64 2, .int .i64 3, .int .i64 4, .int .i64 9] 3)).alloc (.cells #[.int .i64 6, .int .i64 7] 3)) (((hT.alloc _).alloc _).alloc _) hn hsn (hS.same hb3) (kat_of k1 (by decide)) (kat_of k2 (by decide)) tame
  have HP : Hid (Calls Tryz.prog 9 #[.agg #[.int .i64 le, .int .i64 wi, .slice a n cap], .slice sa sn scap, .slice (some ⟨w.heap.size + 1, 0, none⟩) 5 5, .slice (some ⟨w.heap.size + 1 + 1, 0, none⟩) 2 2] (((w.alloc (.cells #[.int .i64 le, .int .i64 wi, .slice a n cap] 24)).alloc (.cells #[.int .i64 1, .int .i64 2, .int .i64 3, .int .i64 4, .int .i64 9] 3)).alloc (.cells #[.int .i64 6, .int .i64 7] 3)) fun e w' => e = .returned (.bool true) ∧ Below (((w.alloc (.cells #[.int .i64 le, .int .i64 wi, .slice a n cap] 24)).alloc (.cells #[.int .i64 1, .int .i64 2, .int .i64 3, .int .i64 4, .int .i64 9] 3)).alloc (.cells #[.int .i64 6, .int .i64 7] 3)).heap.size (((w.alloc (.cells #[.int .i64 le, .int .i64 wi, .slice a n cap] 24)).alloc (.cells #[.int .i64 1, .int .i64 2, .int .i64 3, .int .i64 4, .int .i64 9] 3)).alloc (.cells #[.int .i64 6, .int .i64 7] 3)) w') := hP
  clear hP k1 k2 hn hsn tame
  go_enter Tryz.func3, Tryz.ntmps3
  go_wp2_with fail
  refine HP.out.mono ?_
  rintro e w4 ⟨rfl, hb4⟩
  go_wp2_with fail
  go_ret
  exact ⟨rfl, hb3.trans (hb4.mono (by simp; omega))⟩

set_option maxRecDepth 100000 in
set_option maxHeartbeats 1000000 in
theorem leases_walk (le wi : Int) (a sa : Option Addr) (n cap sn scap : Nat) (R B K X Y Z : Nat → Int) (w : World) (hT : Ten w a n R B) (hn : n * 16 ≤ 140737488355328) (hsn : sn * 32 ≤ 140737488355328) (hS : Scr w sa sn K X Y Z) :
    Calls Tryz.prog 4 #[.agg #[.int .i64 le, .int .i64 wi, .slice a n cap], .slice sa sn scap] w fun e w' => e = .returned (.bool true) ∧ Below w.heap.size w w' := by
  have tame : Tame [5, 10, 11, 12] [6, 7] := rfl
  have hb3 : Below w.heap.size w (((w.alloc (.cells #[.int .i64 le, .int .i64 wi, .slice a n cap] 24)).alloc (.cells #[.int .i64 5, .int .i64 10, .int .i64 11, .int .i64 12] 3)).alloc (.cells #[.int .i64 6, .int .i64 7] 3)) := (((Below.refl _ _).alloc (Nat.le_refl _) _).alloc (by simp) _).alloc (by simp; omega) _
  have k1 : BAt (((w.alloc (.cells #[.int .i64 le, .int .i64 wi, .slice a n cap] 24)).alloc (.cells #[.int .i64 5, .int .i64 10, .int .i64 11, .int .i64 12] 3)).alloc (.cells #[.int .i64 6, .int .i64 7] 3)) (w.heap.size + 1) 3 (([5, 10, 11, 12] : List Int).map (Value.int .i64)).toArray := (BAt.made' _ _ (by simp) _ _).alloc _
  have k2 : BAt (((w.alloc (.cells #[.int .i64 le, .int .i64 wi, .slice a n cap] 24)).alloc (.cells #[.int .i64 5, .int .i64 10, .int .i64 11, .int .i64 12] 3)).alloc (.cells #[.int .i64 6, .int .i64 7] 3)) (w.heap.size + 1 + 1) 3 (([6, 7] : List Int).map (Value.int .i64)).toArray := BAt.made' _ _ (by simp) _ _
  have hP := played_any le wi a sa (some ⟨w.heap.size + 1, 0, none⟩) (some ⟨w.heap.size + 1 + 1, 0, none⟩) n cap sn scap 4 4 2 2 R B K X Y Z [5, 10, 11, 12] [6, 7] (((w.alloc (.cells #[.int .i64 le, .int .i64 wi, .slice a n cap] 24)).alloc (.cells #[.int .i64 5, .int .i64 10, .int .i64 11, .int .i64 12] 3)).alloc (.cells #[.int .i64 6, .int .i64 7] 3)) (((hT.alloc _).alloc _).alloc _) hn hsn (hS.same hb3) (kat_of k1 (by decide)) (kat_of k2 (by decide)) tame
  have HP : Hid (Calls Tryz.prog 9 #[.agg #[.int .i64 le, .int .i64 wi, .slice a n cap], .slice sa sn scap, .slice (some ⟨w.heap.size + 1, 0, none⟩) 4 4, .slice (some ⟨w.heap.size + 1 + 1, 0, none⟩) 2 2] (((w.alloc (.cells #[.int .i64 le, .int .i64 wi, .slice a n cap] 24)).alloc (.cells #[.int .i64 5, .int .i64 10, .int .i64 11, .int .i64 12] 3)).alloc (.cells #[.int .i64 6, .int .i64 7] 3)) fun e w' => e = .returned (.bool true) ∧ Below (((w.alloc (.cells #[.int .i64 le, .int .i64 wi, .slice a n cap] 24)).alloc (.cells #[.int .i64 5, .int .i64 10, .int .i64 11, .int .i64 12] 3)).alloc (.cells #[.int .i64 6, .int .i64 7] 3)).heap.size (((w.alloc (.cells #[.int .i64 le, .int .i64 wi, .slice a n cap] 24)).alloc (.cells #[.int .i64 5, .int .i64 10, .int .i64 11, .int .i64 12] 3)).alloc (.cells #[.int .i64 6, .int .i64 7] 3)) w') := hP
  clear hP k1 k2 hn hsn tame
  go_enter Tryz.func4, Tryz.ntmps4
  go_wp2_with fail
  refine HP.out.mono ?_
  rintro e w4 ⟨rfl, hb4⟩
  go_wp2_with fail
  go_ret
  exact ⟨rfl, hb3.trans (hb4.mono (by simp; omega))⟩

end Go.Proofs.YtpfahgogjeignaaGreatDoor

namespace Go.Proofs.YtpfahgogjeignaaGreatDoor
open Go.RowKit

set_option maxRecDepth 100000 in
set_option maxHeartbeats 1000000 in
theorem asks_walk (le wi : Int) (a sa : Option Addr) (n cap sn scap : Nat) (R B K X Y Z : Nat → Int) (w : World) (hT : Ten w a n R B) (hn : n * 16 ≤ 140737488355328) (hsn : sn * 32 ≤ 140737488355328) (hS : Scr w sa sn K X Y Z) :
    Calls Tryz.prog 5 #[.agg #[.int .i64 le, .int .i64 wi, .slice a n cap], .slice sa sn scap] w fun e w' => e = .returned (.bool true) ∧ Below w.heap.size w w' := by
  have tame : Tame [6, 10, 11, 12] [7] := rfl
  have hb3 : Below w.heap.size w (((w.alloc (.cells #[.int .i64 le, .int .i64 wi, .slice a n cap] 24)).alloc (.cells #[.int .i64 6, .int .i64 10, .int .i64 11, .int .i64 12] 3)).alloc (.cells #[.int .i64 7] 3)) := (((Below.refl _ _).alloc (Nat.le_refl _) _).alloc (by simp) _).alloc (by simp; omega) _
  have k1 : BAt (((w.alloc (.cells #[.int .i64 le, .int .i64 wi, .slice a n cap] 24)).alloc (.cells #[.int .i64 6, .int .i64 10, .int .i64 11, .int .i64 12] 3)).alloc (.cells #[.int .i64 7] 3)) (w.heap.size + 1) 3 (([6, 10, 11, 12] : List Int).map (Value.int .i64)).toArray := (BAt.made' _ _ (by simp) _ _).alloc _
  have k2 : BAt (((w.alloc (.cells #[.int .i64 le, .int .i64 wi, .slice a n cap] 24)).alloc (.cells #[.int .i64 6, .int .i64 10, .int .i64 11, .int .i64 12] 3)).alloc (.cells #[.int .i64 7] 3)) (w.heap.size + 1 + 1) 3 (([7] : List Int).map (Value.int .i64)).toArray := BAt.made' _ _ (by simp) _ _
  have hP := played_any le wi a sa (some ⟨w.heap.size + 1, 0, none⟩) (some ⟨w.heap.size + 1 + 1, 0, none⟩) n cap sn scap 4 4 1 1 R B K X Y Z [6, 10, 11, 12] [7] (((w.alloc (.cells #[.int .i64 le, .int .i64 wi, .slice a n cap] 24)).alloc (.cells #[.int .i64 6, .int .i64 10, .int .i64 11, .int .i64 12] 3)).alloc (.cells #[.int .i64 7] 3)) (((hT.alloc _).alloc _).alloc _) hn hsn (hS.same hb3) (kat_of k1 (by decide)) (kat_of k2 (by decide)) tame
  have HP : Hid (Calls Tryz.prog 9 #[.agg #[.int .i64 le, .int .i64 wi, .slice a n cap], .slice sa sn scap, .slice (some ⟨w.heap.size + 1, 0, none⟩) 4 4, .slice (some ⟨w.heap.size + 1 + 1, 0, none⟩) 1 1] (((w.alloc (.cells #[.int .i64 le, .int .i64 wi, .slice a n cap] 24)).alloc (.cells #[.int .i64 6, .int .i64 10, .int .i64 11, .int .i64 12] 3)).alloc (.cells #[.int .i64 7] 3)) fun e w' => e = .returned (.bool true) ∧ Below (((w.alloc (.cells #[.int .i64 le, .int .i64 wi, .slice a n cap] 24)).alloc (.cells #[.int .i64 6, .int .i64 10, .int .i64 11, .int .i64 12] 3)).alloc (.cells #[.int .i64 7] 3)).heap.size (((w.alloc (.cells #[.int .i64 le, .int .i64 wi, .slice a n cap] 24)).alloc (.cells #[.int .i64 6, .int .i64 10, .int .i64 11, .int .i64 12] 3)).alloc (.cells #[.int .i64 7] 3)) w') := hP
  clear hP k1 k2 hn hsn tame
  go_enter Tryz.func5, Tryz.ntmps5
  go_wp2_with fail
  refine HP.out.mono ?_
  rintro e w4 ⟨rfl, hb4⟩
  go_wp2_with fail
  go_ret
  exact ⟨rfl, hb3.trans (hb4.mono (by simp; omega))⟩

end Go.Proofs.YtpfahgogjeignaaGreatDoor

namespace Go.Proofs.YtpfahgogjeignaaGreatDoor
open Go.RowKit

set_option maxRecDepth 100000 in
set_option maxHeartbeats 1000000 in
theorem joins_walk (le wi : Int) (a sa : Option Addr) (n cap sn scap : Nat) (R B K X Y Z : Nat → Int) (w : World) (hT : Ten w a n R B) (hn : n * 16 ≤ 140737488355328) (hsn : sn * 32 ≤ 140737488355328) (hS : Scr w sa sn K X Y Z) :
    Calls Tryz.prog 7 #[.agg #[.int .i64 le, .int .i64 wi, .slice a n cap], .slice sa sn scap] w fun e w' => e = .returned (.bool true) ∧ Below w.heap.size w w' := by
  have tame : Tame [7, 6, 10, 11] [] := rfl
  have hb3 : Below w.heap.size w ((w.alloc (.cells #[.int .i64 le, .int .i64 wi, .slice a n cap] 24)).alloc (.cells #[.int .i64 7, .int .i64 6, .int .i64 10, .int .i64 11] 3)) := ((Below.refl _ _).alloc (Nat.le_refl _) _).alloc (by simp) _
  have k1 : BAt ((w.alloc (.cells #[.int .i64 le, .int .i64 wi, .slice a n cap] 24)).alloc (.cells #[.int .i64 7, .int .i64 6, .int .i64 10, .int .i64 11] 3)) (w.heap.size + 1) 3 (([7, 6, 10, 11] : List Int).map (Value.int .i64)).toArray := BAt.made' _ _ (by simp) _ _
  have k2 : KAt ((w.alloc (.cells #[.int .i64 le, .int .i64 wi, .slice a n cap] 24)).alloc (.cells #[.int .i64 7, .int .i64 6, .int .i64 10, .int .i64 11] 3)) none 0 [] := ⟨rfl, by omega, .inl rfl⟩
  have hP := played_any le wi a sa (some ⟨w.heap.size + 1, 0, none⟩) none n cap sn scap 4 4 0 0 R B K X Y Z [7, 6, 10, 11] [] ((w.alloc (.cells #[.int .i64 le, .int .i64 wi, .slice a n cap] 24)).alloc (.cells #[.int .i64 7, .int .i64 6, .int .i64 10, .int .i64 11] 3)) ((hT.alloc _).alloc _) hn hsn (hS.same hb3) (kat_of k1 (by decide)) k2 tame
  have HP : Hid (Calls Tryz.prog 9 #[.agg #[.int .i64 le, .int .i64 wi, .slice a n cap], .slice sa sn scap, .slice (some ⟨w.heap.size + 1, 0, none⟩) 4 4, .slice none 0 0] ((w.alloc (.cells #[.int .i64 le, .int .i64 wi, .slice a n cap] 24)).alloc (.cells #[.int .i64 7, .int .i64 6, .int .i64 10, .int .i64 11] 3)) fun e w' => e = .returned (.bool true) ∧ Below ((w.alloc (.cells #[.int .i64 le, .int .i64 wi, .slice a n cap] 24)).alloc (.cells #[.int .i64 7, .int .i64 6, .int .i64 10, .int .i64 11] 3)).heap.size ((w.alloc (.cells #[.int .i64 le, .int .i64 wi, .slice a n cap] 24)).alloc (.cells #[.int .i64 7, .int .i64 6, .int .i64 10, .int .i64 11] 3)) w') := hP
  clear hP k1 k2 hn hsn tame
  go_enter Tryz.func7, Tryz.ntmps7
  go_wp2_with fail
  refine HP.out.mono ?_
  rintro e w4 ⟨rfl, hb4⟩
  go_wp2_with fail
  go_ret
  exact ⟨rfl, hb3.trans (hb4.mono (by simp; omega))⟩

set_option maxRecDepth 100000 in
set_option maxHeartbeats 1000000 in
theorem levels_walk (le wi : Int) (a sa : Option Addr) (n cap sn scap : Nat) (R B K X Y Z : Nat → Int) (w : World) (hT : Ten w a n R B) (hn : n * 16 ≤ 140737488355328) (hsn : sn * 32 ≤ 140737488355328) (hS : Scr w sa sn K X Y Z) :
    Calls Tryz.prog 6 #[.agg #[.int .i64 le, .int .i64 wi, .slice a n cap], .slice sa sn scap] w fun e w' => e = .returned (.bool true) ∧ Below w.heap.size w w' := by
  have tame : Tame [12] [] := rfl
  have hb3 : Below w.heap.size w ((w.alloc (.cells #[.int .i64 le, .int .i64 wi, .slice a n cap] 24)).alloc (.cells #[.int .i64 12] 3)) := ((Below.refl _ _).alloc (Nat.le_refl _) _).alloc (by simp) _
  have k1 : BAt ((w.alloc (.cells #[.int .i64 le, .int .i64 wi, .slice a n cap] 24)).alloc (.cells #[.int .i64 12] 3)) (w.heap.size + 1) 3 (([12] : List Int).map (Value.int .i64)).toArray := BAt.made' _ _ (by simp) _ _
  have k2 : KAt ((w.alloc (.cells #[.int .i64 le, .int .i64 wi, .slice a n cap] 24)).alloc (.cells #[.int .i64 12] 3)) none 0 [] := ⟨rfl, by omega, .inl rfl⟩
  have hP := played_any le wi a sa (some ⟨w.heap.size + 1, 0, none⟩) none n cap sn scap 1 1 0 0 R B K X Y Z [12] [] ((w.alloc (.cells #[.int .i64 le, .int .i64 wi, .slice a n cap] 24)).alloc (.cells #[.int .i64 12] 3)) ((hT.alloc _).alloc _) hn hsn (hS.same hb3) (kat_of k1 (by decide)) k2 tame
  have HP : Hid (Calls Tryz.prog 9 #[.agg #[.int .i64 le, .int .i64 wi, .slice a n cap], .slice sa sn scap, .slice (some ⟨w.heap.size + 1, 0, none⟩) 1 1, .slice none 0 0] ((w.alloc (.cells #[.int .i64 le, .int .i64 wi, .slice a n cap] 24)).alloc (.cells #[.int .i64 12] 3)) fun e w' => e = .returned (.bool true) ∧ Below ((w.alloc (.cells #[.int .i64 le, .int .i64 wi, .slice a n cap] 24)).alloc (.cells #[.int .i64 12] 3)).heap.size ((w.alloc (.cells #[.int .i64 le, .int .i64 wi, .slice a n cap] 24)).alloc (.cells #[.int .i64 12] 3)) w') := hP
  clear hP k1 k2 hn hsn tame
  go_enter Tryz.func6, Tryz.ntmps6
  go_wp2_with fail
  refine HP.out.mono ?_
  rintro e w4 ⟨rfl, hb4⟩
  go_wp2_with fail
  go_ret
  exact ⟨rfl, hb3.trans (hb4.mono (by simp; omega))⟩

set_option maxRecDepth 100000 in
set_option maxHeartbeats 1000000 in
theorem waits_walk (le wi : Int) (a sa : Option Addr) (n cap sn scap : Nat) (R B K X Y Z : Nat → Int) (w : World) (hT : Ten w a n R B) (hn : n * 16 ≤ 140737488355328) (hsn : sn * 32 ≤ 140737488355328) (hS : Scr w sa sn K X Y Z) :
    Calls Tryz.prog 8 #[.agg #[.int .i64 le, .int .i64 wi, .slice a n cap], .slice sa sn scap] w fun e w' => e = .returned (.bool true) ∧ Below w.heap.size w w' := by
  have tame : Tame [8] [] := rfl
  have hb3 : Below w.heap.size w ((w.alloc (.cells #[.int .i64 le, .int .i64 wi, .slice a n cap] 24)).alloc (.cells #[.int .i64 8] 3)) := ((Below.refl _ _).alloc (Nat.le_refl _) _).alloc (by simp) _
  have k1 : BAt ((w.alloc (.cells #[.int .i64 le, .int .i64 wi, .slice a n cap] 24)).alloc (.cells #[.int .i64 8] 3)) (w.heap.size + 1) 3 (([8] : List Int).map (Value.int .i64)).toArray := BAt.made' _ _ (by simp) _ _
  have k2 : KAt ((w.alloc (.cells #[.int .i64 le, .int .i64 wi, .slice a n cap] 24)).alloc (.cells #[.int .i64 8] 3)) none 0 [] := ⟨rfl, by omega, .inl rfl⟩
  have hP := played_any le wi a sa (some ⟨w.heap.size + 1, 0, none⟩) none n cap sn scap 1 1 0 0 R B K X Y Z [8] [] ((w.alloc (.cells #[.int .i64 le, .int .i64 wi, .slice a n cap] 24)).alloc (.cells #[.int .i64 8] 3)) ((hT.alloc _).alloc _) hn hsn (hS.same hb3) (kat_of k1 (by decide)) k2 tame
  have HP : Hid (Calls Tryz.prog 9 #[.agg #[.int .i64 le, .int .i64 wi, .slice a n cap], .slice sa sn scap, .slice (some ⟨w.heap.size + 1, 0, none⟩) 1 1, .slice none 0 0] ((w.alloc (.cells #[.int .i64 le, .int .i64 wi, .slice a n cap] 24)).alloc (.cells #[.int .i64 8] 3)) fun e w' => e = .returned (.bool true) ∧ Below ((w.alloc (.cells #[.int .i64 le, .int .i64 wi, .slice a n cap] 24)).alloc (.cells #[.int .i64 8] 3)).heap.size ((w.alloc (.cells #[.int .i64 le, .int .i64 wi, .slice a n cap] 24)).alloc (.cells #[.int .i64 8] 3)) w') := hP
  clear hP k1 k2 hn hsn tame
  go_enter Tryz.func8, Tryz.ntmps8
  go_wp2_with fail
  refine HP.out.mono ?_
  rintro e w4 ⟨rfl, hb4⟩
  go_wp2_with fail
  go_ret
  exact ⟨rfl, hb3.trans (hb4.mono (by simp; omega))⟩

end Go.Proofs.YtpfahgogjeignaaGreatDoor
