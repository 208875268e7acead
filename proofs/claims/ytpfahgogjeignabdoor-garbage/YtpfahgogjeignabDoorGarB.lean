/-
  Garbage: its walk.
-/
import Derived.Test.YtpfahgogjeignabDoorGarA
import Derived.Test.YtpfahgogjeignabDoorSavA
import Derived.Lib.ConvBytes
import Derived.Laws.BytesArg
import Derived.Deep.Cut
import Derived.Deep.CutRange
import Derived.Test.YtpfahgogjeignabDoorPick
set_option linter.unusedVariables false
set_option linter.unusedSimpArgs false
namespace Go.Proofs.YtpfahgogjeignabDoor
open Go.RowKit
attribute [local go_sem ↓] Go.wp_at_zero Go.wp_at_succ

/-- Bytes lie there. -/
def BytesAt (w : World) (g n : Nat) : Prop := ∃ (arr : Array Value) (t : TypeId) (fr : Nat × Nat), w.heap[g]? = some (.cells arr t fr) ∧ n ≤ fr.1 ∧ n ≤ arr.size ∧ ∀ j, j < n → ∃ v : Int, arr[j]? = some (.int .u8 v)
theorem BytesAt.lt {w : World} {g n : Nat} (h : BytesAt w g n) : g < w.heap.size := by
  obtain ⟨arr, t, fr, hb, _⟩ := h
  rcases Nat.lt_or_ge g w.heap.size with h' | h'
  · exact h'
  · rw [Array.getElem?_eq_none h'] at hb; cases hb
theorem BytesAt.cell {w : World} {g n : Nat} (h : BytesAt w g n) (j : Nat) (hj : j < n) : ∃ v : Int, w.cell? ⟨g, j, none⟩ = some (.int .u8 v) := by
  obtain ⟨arr, t, fr, hb, _, _, hc⟩ := h
  obtain ⟨v, hv⟩ := hc j hj
  exact ⟨v, by rw [cell_of_block hb]; exact hv⟩
theorem BytesAt.free {w : World} {g n : Nat} (h : BytesAt w g n) (j : Nat) (hj : j < n) : w.frozen? ⟨g, j, none⟩ = false := by
  obtain ⟨arr, t, fr, hb, hf, _⟩ := h
  simp [World.frozen?, hb]
  omega
theorem BytesAt.set {w : World} {g n : Nat} (h : BytesAt w g n) (k : Nat) (x : Int) : BytesAt (w.setCell ⟨g, k, none⟩ (.int .u8 x)) g n := by
  obtain ⟨arr, t, fr, hb, hf, hs, hc⟩ := h
  refine ⟨_, t, fr, block_setCell hb _, hf, by simpa using hs, fun j hj => ?_⟩
  by_cases e : k = j
  · subst e
    refine ⟨x, ?_⟩
    have hk : k < arr.size := by omega
    rw [Array.getElem?_setIfInBounds]
    simp [hk]
  · obtain ⟨v, hv⟩ := hc j hj
    refine ⟨v, ?_⟩
    rw [Array.getElem?_setIfInBounds_ne e]
    exact hv
theorem bytes_made (w : World) (e : TypeId) (T : ByteArray) : BytesAt (Go.Lib.bytesWorld w e T) w.heap.size T.size := by
  have hs : T.size ≤ (Go.Lib.bytesCells w e T).size := by simp [Go.Lib.bytesCells]
  refine ⟨_, e, _, Go.Lib.bytesWorld_at_new w e T, hs, hs, fun j hj => ?_⟩
  have := Go.Lib.bytesWorld_cell w e T j hj
  rw [cell_of_block (Go.Lib.bytesWorld_at_new w e T)] at this
  exact ⟨_, this⟩
theorem bytes_same (w : World) (e : TypeId) (T : ByteArray) : Same w (Go.Lib.bytesWorld w e T) :=
  ⟨rfl, rfl, rfl, by rw [Go.Lib.bytesWorld_size]; omega, fun k hk _ => Go.Lib.bytesWorld_at_old w e T k hk⟩
theorem bytes_back (w : World) (g n cap : Nat) (h : BytesAt w g n) (src dst : TypeId) (hs : Tryd.prog.underlying src = some (.slice 5)) (hd : Tryd.prog.underlying dst = some .string) : ∃ T : ByteArray, T.size = n ∧ (convert src dst (.slice (some ⟨g, 0, none⟩) n cap)).run Tryd.prog w = .ok (.string T) w := by
  obtain ⟨f, hf⟩ : ∃ f : Nat → Int, ∀ j, j < n → w.cell? ⟨g, j, none⟩ = some (.int .u8 (f j)) := by
    refine ⟨fun j => if hj : j < n then Classical.choose (h.cell j hj) else 0, fun j hj => ?_⟩
    dsimp only
    rw [dif_pos hj]
    exact Classical.choose_spec (h.cell j hj)
  refine ⟨strOfNums ((List.range n).map f), by rw [Go.Lib.size_eq, strOfNums_data]; simp, ?_⟩
  refine run_convert_bytes_arg w src 5 hs Tryd.underlying5 g 0 n cap ((List.range n).map f) (by simp) (fun i hi => ?_) dst hd
  rw [Nat.zero_add, hf i hi]
  simp [List.getD, hi]


set_option maxRecDepth 100000 in
set_option maxHeartbeats 1000000 in
theorem garbage_no (le wi place by_ : Int) (J : ByteArray) (a sa : Option Addr) (n cap sn scap : Nat) (R B K X Y Z : Nat → Int) (w : World) (hT : Ten w a n R B) (hn : n * 16 ≤ 140737488355328) (hsn : sn * 32 ≤ 140737488355328) (hS : Scr w sa sn K X Y Z) (hJ : J.size ≤ 140737488355328) (hlib : Lib w) (no : ¬ Good le wi n R B) :
    Calls Tryd.prog 4 #[.agg #[.int .i64 le, .int .i64 wi, .slice a n cap], .slice sa sn scap, .string J, .int .i64 place, .int .i64 by_] w fun e w' => e = .returned (.bool true) ∧ Below w.heap.size w w' := by
  have hS1 : Same w (w.alloc (.cells #[.int .i64 le, .int .i64 wi, .slice a n cap] 24)) := Kept.alloc (Kept.refl _ _) _
  have HO : Hid (Calls Tryd.prog 5 #[.agg #[.int .i64 le, .int .i64 wi, .slice a n cap], .slice sa sn scap] (w.alloc (.cells #[.int .i64 le, .int .i64 wi, .slice a n cap] 24)) fun e w' => ∃ t, e = .returned (.tuple #[.pointer none, .pointer (some ⟨t, 0, none⟩), .bool true]) ∧ Same (w.alloc (.cells #[.int .i64 le, .int .i64 wi, .slice a n cap] 24)) w') := troubled_no le wi a sa n cap sn scap R B _ (hT.same hS1) hn no
  have HE : Hid (∀ W, Below w.heap.size w W → Calls Tryd.prog 11 #[.string J, .slice sa sn scap] W fun e w' => e = .returned (.bool true) ∧ Below W.heap.size W w') := fun W hW => endures_any J hJ sa sn scap K X Y Z W (hlib.below hW) hsn (hS.same hW)
  clear hT hn no hS hsn hlib hJ
  go_enter Tryd.func4, Tryd.ntmps4
  go_wp2_with fail
  refine HO.out.mono ?_
  rintro e w2 ⟨t, rfl, hk2⟩
  have bel2 := (hS1.trans hk2).below (Nat.le_refl _) (fun _ _ h => h)
  have hz := bel2.size
  clear HO hk2 hS1
  go_wp2_with fail
  refine (HE.out _ bel2).mono ?_
  rintro e w3 ⟨rfl, bel3⟩
  go_wp2_with fail
  go_ret
  exact ⟨rfl, bel2.trans (bel3.mono hz)⟩

set_option maxRecDepth 100000 in
set_option maxHeartbeats 4000000 in
theorem garbage_yes (le wi place by_ : Int) (pi : -9223372036854775808 ≤ place ∧ place ≤ 9223372036854775807) (bi : -9223372036854775808 ≤ by_ ∧ by_ ≤ 9223372036854775807) (J : ByteArray) (a sa : Option Addr) (n cap sn scap : Nat) (R B K X Y Z : Nat → Int) (w : World) (hT : Ten w a n R B) (hn : n * 16 ≤ 140737488355328) (hsn : sn * 32 ≤ 140737488355328) (hS : Scr w sa sn K X Y Z) (hJ : J.size ≤ 140737488355328) (hlib : Lib w) (ok : Good le wi n R B) :
    Calls Tryd.prog 4 #[.agg #[.int .i64 le, .int .i64 wi, .slice a n cap], .slice sa sn scap, .string J, .int .i64 place, .int .i64 by_] w fun e w' => e = .returned (.bool true) ∧ Below w.heap.size w w' := by
  have hS1 : Same w (w.alloc (.cells #[.int .i64 le, .int .i64 wi, .slice a n cap] 24)) := Kept.alloc (Kept.refl _ _) _
  have HO : Hid (Calls Tryd.prog 5 #[.agg #[.int .i64 le, .int .i64 wi, .slice a n cap], .slice sa sn scap] (w.alloc (.cells #[.int .i64 le, .int .i64 wi, .slice a n cap] 24)) fun e w' => ∃ b t, e = .returned (.tuple #[.pointer (some ⟨b, 0, none⟩), .pointer (some ⟨t, 0, none⟩), .bool true]) ∧ (w.alloc (.cells #[.int .i64 le, .int .i64 wi, .slice a n cap] 24)).heap.size ≤ b ∧ (w.alloc (.cells #[.int .i64 le, .int .i64 wi, .slice a n cap] 24)).heap.size ≤ t ∧ b ≠ t ∧ PAt w' b ((PC.fresh le wi n R B n 2 (-1)).runTo K X Y Z sn) ∧ ClockAt w' t ((PC.fresh le wi n R B n 2 (-1)).runTo K X Y Z sn).now ∧ Same (w.alloc (.cells #[.int .i64 le, .int .i64 wi, .slice a n cap] 24)) w') := troubled_yes le wi a sa n cap sn scap R B K X Y Z _ (hT.same hS1) hn hsn (hS.same (hS1.below (Nat.le_refl _) (fun _ _ h => h))) ok
  have hfit : Fit ((PC.fresh le wi n R B n 2 (-1)).runTo K X Y Z sn) (0 + sn) := runTo_fit (fit_fresh ok) K X Y Z sn (by omega)
  have HJ : Hid (J.size ≤ 140737488355328) := hJ
  have HE : Hid (∀ (T : ByteArray) W, T.size ≤ 140737488355328 → Below w.heap.size w W → Calls Tryd.prog 11 #[.string T, .slice sa sn scap] W fun e w' => e = .returned (.bool true) ∧ Below W.heap.size W w') := fun T W hZ hW => endures_any T hZ sa sn scap K X Y Z W (hlib.below hW) hsn (hS.same hW)
  have LIB : Hid (Lib w) := hlib
  generalize (PC.fresh le wi n R B n 2 (-1)).runTo K X Y Z sn = st at *
  have HSV : Hid (∀ b W, Lib W → PAt W b st → Calls Tryd.prog 6 #[.pointer (some ⟨b, 0, none⟩)] W fun e w' => e = .returned (.string (saveText st)) ∧ Same W w') := fun b W hl hp => save_any b st _ hfit (by omega) W hl hp
  have hlen := save_len hfit (by omega)
  generalize saveText st = T at *
  clear hT hn ok hS hsn hlib hfit hJ
  have hcv : ∀ W, (convert 9 41 (.string T)).run Tryd.prog W = .ok (.slice (some ⟨W.heap.size, 0, none⟩) T.size (grownCap W T.size 0 5)) (Go.Lib.bytesWorld W 5 T) := fun W => Go.Lib.run_convert_string_bytes W 9 41 5 T Tryd.underlying9 Tryd.underlying41 Tryd.underlying5
  go_enter Tryd.func4, Tryd.ntmps4
  go_wp2_with fail
  refine HO.out.mono ?_
  rintro e w2 ⟨b, t, rfl, _, _, _, hp2, _, hk2⟩
  have bel2 := (hS1.trans hk2).below (Nat.le_refl _) (fun _ _ h => h)
  clear HO hk2 hS1
  go_wp2_with fail
  refine (HSV.out b _ (LIB.out.below bel2) hp2).mono ?_
  rintro e w3 ⟨rfl, hk3⟩
  have bel3 := bel2.trans (hk3.below bel2.size (fun _ _ h => h))
  clear HSV hk3 bel2 hp2
  have kb := bytes_same w3 5 T
  have bm := bytes_made w3 5 T
  have bel4 := bel3.trans (kb.below bel3.size (fun _ _ h => h))
  have l3 := bel3.size
  by_cases h0 : T.size = 0
  · have e0 : decide (0 < T.size) = false := decide_eq_false (by omega)
    obtain ⟨T2, hz2, hc2⟩ := bytes_back (Go.Lib.bytesWorld w3 5 T) w3.heap.size T.size (grownCap w3 T.size 0 5) bm 41 9 Tryd.underlying41 Tryd.underlying9
    clear h0
    go_wp2_with fail
    refine (HE.out T2 _ (by omega) bel4).mono ?_
    rintro e w5 ⟨rfl, bel5⟩
    have bel5' := bel4.trans (bel5.mono bel4.size)
    clear hc2
    go_wp2_with fail
    refine (HE.out J _ HJ.out bel5').mono ?_
    rintro e w6 ⟨rfl, bel6⟩
    go_wp2_with fail
    go_ret
    exact ⟨rfl, bel5'.trans (bel6.mono bel5'.size)⟩
  · have e0 : decide (0 < T.size) = true := decide_eq_true (by omega)
    obtain ⟨kn, hkn, ek⟩ : ∃ k : Nat, k < T.size ∧ pickOf place (T.size : Int) = (k : Int) := by
      have := pickOf_bd (c := place) (n := (T.size : Int)) (by omega)
      exact ⟨(pickOf place (T.size : Int)).toNat, by omega, by omega⟩
    have HP : Hid (∀ W, Calls Tryd.prog 10 #[.int .i64 place, .int .i64 (T.size : Int)] W fun e w' => e = .returned (.int .i64 (kn : Int)) ∧ w' = W) := by
      intro W
      have := pick_any place (T.size : Int) pi.1 pi.2 (by omega) (by omega) W
      rw [ek] at this
      exact this
    have hbp := pickOf_bd (c := by_) (n := 255) (by omega)
    have HB : Hid (∀ W, Calls Tryd.prog 10 #[.int .i64 by_, .int .i64 255] W fun e w' => e = .returned (.int .i64 (pickOf by_ 255)) ∧ w' = W) := fun W => pick_any by_ 255 bi.1 bi.2 (by omega) (by omega) W
    generalize pickOf by_ 255 = pb at *
    obtain ⟨pb0, pb1⟩ := hbp
    have BM : Hid (BytesAt (Go.Lib.bytesWorld w3 5 T) w3.heap.size T.size) := bm
    have BL4 : Hid (Below w.heap.size w (Go.Lib.bytesWorld w3 5 T)) := bel4
    clear ek h0 bel3 kb bm bel4
    go_wp2_with fail
    generalize Go.Lib.bytesWorld w3 5 T = W4 at *
    generalize grownCap w3 T.size 0 5 = cp at *
    generalize w3.heap.size = g at *
    generalize T.size = tn at *
    clear hcv
    refine (HP.out _).mono ?_
    rintro e w5 ⟨rfl, rfl⟩
    have bg := BM.out.lt
    obtain ⟨v, hv⟩ := BM.out.cell kn hkn
    have hfz := BM.out.free kn hkn
    have hkni : (kn : Int) < (tn : Int) := by omega
    have hkn0 : (0 : Int) ≤ (kn : Int) := by omega
    clear HP
    go_upto_region 8 with fail
    go_cut [15] from 38 (fun u wx => u = .int .i64 kn ∧ BytesAt wx g tn ∧ Wrote g w5 wx)
    case first =>
      go_region_with (go_at_call 10; refine (HB.out _).mono ?_; rintro e w6 ⟨rfl, rfl⟩)
      all_goals go_wp2_with fail
      all_goals go_meet
      all_goals exact ⟨rfl, BM.out.set kn _, (Wrote.set (Kept.refl _ _) _ _).drew⟩
    case rest =>
      obtain ⟨rfl, bm6, k6⟩ := hcut
      have bel6 := BL4.out.trans (k6.below BL4.out.size (fun q hq e => by omega))
      obtain ⟨T2, hz2, hc2⟩ := bytes_back wc g tn cp bm6 41 9 Tryd.underlying41 Tryd.underlying9
      clear BM BL4 hv hfz bm6 k6 HB
      go_wp2_with fail
      refine (HE.out T2 _ (by omega) bel6).mono ?_
      rintro e w7 ⟨rfl, bel7⟩
      have bel7' := bel6.trans (bel7.mono bel6.size)
      clear hc2
      go_wp2_with fail
      refine (HE.out J _ HJ.out bel7').mono ?_
      rintro e w8 ⟨rfl, bel8⟩
      go_wp2_with fail
      go_ret
      exact ⟨rfl, bel7'.trans (bel8.mono bel7'.size)⟩

theorem garbage_walk (le wi place by_ : Int) (pi : -9223372036854775808 ≤ place ∧ place ≤ 9223372036854775807) (bi : -9223372036854775808 ≤ by_ ∧ by_ ≤ 9223372036854775807) (J : ByteArray) (a sa : Option Addr) (n cap sn scap : Nat) (R B K X Y Z : Nat → Int) (w : World) (hT : Ten w a n R B) (hn : n * 16 ≤ 140737488355328) (hsn : sn * 32 ≤ 140737488355328) (hS : Scr w sa sn K X Y Z) (hJ : J.size ≤ 140737488355328) (hlib : Lib w) :
    Calls Tryd.prog 4 #[.agg #[.int .i64 le, .int .i64 wi, .slice a n cap], .slice sa sn scap, .string J, .int .i64 place, .int .i64 by_] w fun e w' => e = .returned (.bool true) ∧ Below w.heap.size w w' := by
  rcases Classical.em (Good le wi n R B) with g | no
  · exact garbage_yes le wi place by_ pi bi J a sa n cap sn scap R B K X Y Z w hT hn hsn hS hJ hlib g
  · exact garbage_no le wi place by_ J a sa n cap sn scap R B K X Y Z w hT hn hsn hS hJ hlib no

end Go.Proofs.YtpfahgogjeignabDoor
