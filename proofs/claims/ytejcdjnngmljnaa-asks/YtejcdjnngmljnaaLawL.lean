/-
  Moves and Leases: their walks.
-/
import Derived.Test.YtejcdjnngmljnaaLawK
set_option linter.unusedVariables false
set_option linter.unusedSimpArgs false
namespace Go.Proofs.Ytejcdjnngmljnaa
open Go.RowKit

theorem kat_of {w : World} {g : Nat} {l : List Int} (h : BAt w g 3 (l.map (Value.int .i64)).toArray) (h5 : l.length ≤ 5) : KAt w (some ⟨g, 0, none⟩) l.length l := by
  refine ⟨rfl, h5, .inr ⟨g, rfl, h.lt, fun j hj => ?_⟩⟩
  rw [h.cell]
  simp [hj]

set_option maxRecDepth 100000 in
set_option maxHeartbeats 1000000 in
theorem moves_walk (le wi : Int) (a sa : Option Addr) (n cap sn scap : Nat) (R B K X Y Z : Nat → Int) (w : World) (hT : Ten w a n R B) (hn : n * 16 ≤ 140737488355328) (hsn : sn * 32 ≤ 140737488355328) (hS : Scr w sa sn K X Y Z) :
    Calls Try.prog 4 #[.agg #[.int .i64 le, .int .i64 wi, .slice a n cap], .slice sa sn scap] w fun e w' => e = .returned (.bool true) ∧ Below w.heap.size w w' := by
  have tame : Tame [1, 2, 3, 4, 9] [6, 7] := ⟨rfl, rfl, rfl⟩
  have hb3 : Below w.heap.size w (((w.alloc (.cells #[.int .i64 le, .int .i64 wi, .slice a n cap] 24)).alloc (.cells #[.int .i64 1, .int .i64 2, .int .i64 3, .int .i64 4, .int .i64 9] 3)).alloc (.cells #[.int .i64 6, .int .i64 7] 3)) := (((Below.refl _ _).alloc (Nat.le_refl _) _).alloc (by simp) _).alloc (by simp; omega) _
  have k1 : BAt (((w.alloc (.cells #[.int .i64 le, .int .i64 wi, .slice a n cap] 24)).alloc (.cells #[.int .i64 1, .int .i64 2, .int .i64 3, .int .i64 4, .int .i64 9] 3)).alloc (.cells #[.int .i64 6, .int .i64 7] 3)) (w.heap.size + 1) 3 (([1, 2, 3, 4, 9] : List Int).map (Value.int .i64)).toArray := (BAt.made' _ _ (by simp) _ _).alloc _
  have k2 : BAt (((w.alloc (.cells #[.int .i64 le, .int .i64 wi, .slice a n cap] 24)).alloc (.cells #[.int .i64 1, .int .i64 2, .int .i64 3, .int .i64 4, .int .i64 9] 3)).alloc (.cells #[.int .i64 6, .int .i64 7] 3)) (w.heap.size + 1 + 1) 3 (([6, 7] : List Int).map (Value.int .i64)).toArray := BAt.made' _ _ (by simp) _ _
  have hP := played_any le wi a sa (some ⟨w.heap.size + 1, 0, none⟩) (some ⟨w.heap.size + 1 + 1, 0, none⟩) n cap sn scap 5 5 2 2 R B K X Y Z [1, 2, 3, 4, 9] [6, 7] (((w.alloc (.cells #[.int .i64 le, .int .i64 wi, .slice a n cap] 24)).alloc (.cells #[.int .i64 1, .int .i64 2, .int .i64 3, .int .i64 4, .int .i64 9] 3)).alloc (.cells #[.int .i64 6, .int .i64 7] 3)) (((hT.alloc _).alloc _).alloc _) hn hsn (hS.same hb3) (kat_of k1 (by decide)) (kat_of k2 (by decide)) tame
  have HP : Hid (Calls Try.prog 16 #[.agg #[.int .i64 le, .int .i64 wi, .slice a n cap], .slice sa sn scap, .slice (some ⟨w.heap.size + 1, 0, none⟩) 5 5, .slice (some ⟨w.heap.size + 1 + 1, 0, none⟩) 2 2] (((w.alloc (.cells #[.int .i64 le, .int .i64 wi, .slice a n cap] 24)).alloc (.cells #[.int .i64 1, .int .i64 2, .int .i64 3, .int .i64 4, .int .i64 9] 3)).alloc (.cells #[.int .i64 6, .int .i64 7] 3)) fun e w' => e = .returned (.bool true) ∧ Below (((w.alloc (.cells #[.int .i64 le, .int .i64 wi, .slice a n cap] 24)).alloc (.cells #[.int .i64 1, .int .i64 2, .int .i64 3, .int .i64 4, .int .i64 9] 3)).alloc (.cells #[.int .i64 6, .int .i64 7] 3)).heap.size (((w.alloc (.cells #[.int .i64 le, .int .i64 wi, .slice a n cap] 24)).alloc (.cells #[.int .i64 1, .int .i64 2, .int .i64 3, .int .i64 4, .int .i64 9] 3)).alloc (.cells #[.int .i64 6, .int .i64 7] 3)) w') := hP
  clear hP k1 k2 hn hsn tame
  go_enter Try.func4, Try.ntmps4
  go_wp2_with fail
  refine HP.out.mono ?_
  rintro e w4 ⟨rfl, hb4⟩
  go_wp2_with fail
  go_ret
  exact ⟨rfl, hb3.trans (hb4.mono (by simp; omega))⟩

set_option maxRecDepth 100000 in
set_option maxHeartbeats 1000000 in
theorem leases_walk (le wi : Int) (a sa : Option Addr) (n cap sn scap : Nat) (R B K X Y Z : Nat → Int) (w : World) (hT : Ten w a n R B) (hn : n * 16 ≤ 140737488355328) (hsn : sn * 32 ≤ 140737488355328) (hS : Scr w sa sn K X Y Z) :
    Calls Try.prog 5 #[.agg #[.int .i64 le, .int .i64 wi, .slice a n cap], .slice sa sn scap] w fun e w' => e = .returned (.bool true) ∧ Below w.heap.size w w' := by
  have tame : Tame [5, 10, 11, 12] [6, 7] := ⟨rfl, rfl, rfl⟩
  have hb3 : Below w.heap.size w (((w.alloc (.cells #[.int .i64 le, .int .i64 wi, .slice a n cap] 24)).alloc (.cells #[.int .i64 5, .int .i64 10, .int .i64 11, .int .i64 12] 3)).alloc (.cells #[.int .i64 6, .int .i64 7] 3)) := (((Below.refl _ _).alloc (Nat.le_refl _) _).alloc (by simp) _).alloc (by simp; omega) _
  have k1 : BAt (((w.alloc (.cells #[.int .i64 le, .int .i64 wi, .slice a n cap] 24)).alloc (.cells #[.int .i64 5, .int .i64 10, .int .i64 11, .int .i64 12] 3)).alloc (.cells #[.int .i64 6, .int .i64 7] 3)) (w.heap.size + 1) 3 (([5, 10, 11, 12] : List Int).map (Value.int .i64)).toArray := (BAt.made' _ _ (by simp) _ _).alloc _
  have k2 : BAt (((w.alloc (.cells #[.int .i64 le, .int .i64 wi, .slice a n cap] 24)).alloc (.cells #[.int .i64 5, .int .i64 10, .int .i64 11, .int .i64 12] 3)).alloc (.cells #[.int .i64 6, .int .i64 7] 3)) (w.heap.size + 1 + 1) 3 (([6, 7] : List Int).map (Value.int .i64)).toArray := BAt.made' _ _ (by simp) _ _
  have hP := played_any le wi a sa (some ⟨w.heap.size + 1, 0, none⟩) (some ⟨w.heap.size + 1 + 1, 0, none⟩) n cap sn scap 4 4 2 2 R B K X Y Z [5, 10, 11, 12] [6, 7] (((w.alloc (.cells #[.int .i64 le, .int .i64 wi, .slice a n cap] 24)).alloc (.cells #[.int .i64 5, .int .i64 10, .int .i64 11, .int .i64 12] 3)).alloc (.cells #[.int .i64 6, .int .i64 7] 3)) (((hT.alloc _).alloc _).alloc _) hn hsn (hS.same hb3) (kat_of k1 (by decide)) (kat_of k2 (by decide)) tame
  have HP : Hid (Calls Try.prog 16 #[.agg #[.int .i64 le, .int .i64 wi, .slice a n cap], .slice sa sn scap, .slice (some ⟨w.heap.size + 1, 0, none⟩) 4 4, .slice (some ⟨w.heap.size + 1 + 1, 0, none⟩) 2 2] (((w.alloc (.cells #[.int .i64 le, .int .i64 wi, .slice a n cap] 24)).alloc (.cells #[.int .i64 5, .int .i64 10, .int .i64 11, .int .i64 12] 3)).alloc (.cells #[.int .i64 6, .int .i64 7] 3)) fun e w' => e = .returned (.bool true) ∧ Below (((w.alloc (.cells #[.int .i64 le, .int .i64 wi, .slice a n cap] 24)).alloc (.cells #[.int .i64 5, .int .i64 10, .int .i64 11, .int .i64 12] 3)).alloc (.cells #[.int .i64 6, .int .i64 7] 3)).heap.size (((w.alloc (.cells #[.int .i64 le, .int .i64 wi, .slice a n cap] 24)).alloc (.cells #[.int .i64 5, .int .i64 10, .int .i64 11, .int .i64 12] 3)).alloc (.cells #[.int .i64 6, .int .i64 7] 3)) w') := hP
  clear hP k1 k2 hn hsn tame
  go_enter Try.func5, Try.ntmps5
  go_wp2_with fail
  refine HP.out.mono ?_
  rintro e w4 ⟨rfl, hb4⟩
  go_wp2_with fail
  go_ret
  exact ⟨rfl, hb3.trans (hb4.mono (by simp; omega))⟩

end Go.Proofs.Ytejcdjnngmljnaa
