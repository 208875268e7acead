/-
  The caller's list: handed, still: their contracts.
-/
import Derived.Test.YtpfahgogjeignaaDoorHand
import Derived.Test.YtpfahgogjeignaaDoorRefD
import Derived.Deep.Cut
set_option linter.unusedVariables false
set_option linter.unusedSimpArgs false
namespace Go.Proofs.YtpfahgogjeignaaDoor
open Go.RowKit
attribute [local go_sem] fArr_get

/-- .. with the caller's marks behind them. -/
def handF (n : Nat) (R B : Nat → Int) (o : Nat) : Value := if o < n * 2 then tenF R B o else if o = n * 2 ∨ o = n * 2 + 3 then .int .i64 (-77) else .int .i64 0
theorem hand_stores (n : Nat) (R B : Nat → Int) :
    ((((fArr ((n + 2) * 2) fun o => if o < n * 2 then tenF R B o else .int .i64 0).setIfInBounds (n * 2) (.int .i64 (-77))).setIfInBounds (n * 2 + 1) (.int .i64 0)).setIfInBounds ((n + 1) * 2) (.int .i64 0)).setIfInBounds ((n + 1) * 2 + 1) (.int .i64 (-77)) = fArr ((n + 2) * 2) (handF n R B) := by
  rw [fArr_set, fArr_set, fArr_set, fArr_set]
  congr 1
  funext o
  unfold upd handF
  by_cases h1 : o < n * 2
  · rw [if_neg (by omega), if_neg (by omega), if_neg (by omega), if_neg (by omega), if_pos h1]; exact if_pos h1
  · rw [if_neg h1]
    by_cases h2 : o = (n + 1) * 2 + 1
    · rw [if_pos h2, if_pos (by omega)]
    · rw [if_neg h2]
      by_cases h3 : o = (n + 1) * 2
      · rw [if_pos h3, if_neg (by omega)]
      · rw [if_neg h3]
        by_cases h4 : o = n * 2 + 1
        · rw [if_pos h4, if_neg (by omega)]
        · rw [if_neg h4]
          by_cases h5 : o = n * 2
          · rw [if_pos h5, if_pos (by omega)]
          · rw [if_neg h5, if_neg (by omega)]; exact if_neg h1

set_option maxRecDepth 100000 in
set_option maxHeartbeats 1000000 in
theorem handed_any (a : Option Addr) (n cap : Nat) (R B : Nat → Int) (w : World) (hT : Ten w a n R B) (hn : n * 16 ≤ 140737488355328) :
    Calls Tryd.prog 17 #[.slice a n cap] w fun e w' => e = .returned (.slice (some ⟨w.heap.size, 0, none⟩) n (n + 2)) ∧ BAt w' w.heap.size 56 (fArr ((n + 2) * 2) (handF n R B)) ∧ Same w w' := by
  have hmk := make_tens n hn
  have HN : Hid (n * 16 ≤ 140737488355328) := hn
  have n0 : (0 : Int) ≤ (n : Int) := by omega
  have n1 : (n : Int) < 9000000000000 := by omega
  clear hn
  go_enter Tryd.func17, Tryd.ntmps17
  go_upto_region 3 with fail
  iterate 7 go_step
  refine wpList_copy_ten rfl (.tmp 10) (.tmp 11) rfl w.heap.size (n + 2) n cap (by omega) a (fun _ => .int .i64 0) (tenF R B) rfl rfl (BAt.made' _ _ rfl _ _) (hT.alloc _).src (tenF_one R B) ?_
  intro w2 hb2 hk2
  have hC2 := hb2.cell
  have hF2 := hb2.free
  have g0 := fArr_get ((n + 2) * 2) (fun o => if o < n * 2 then tenF R B o else .int .i64 0) (n * 2) (by omega)
  have g1 := fArr_get ((n + 2) * 2) (fun o => if o < n * 2 then tenF R B o else .int .i64 0) (n * 2 + 1) (by omega)
  have g2 := fArr_get ((n + 2) * 2) (fun o => if o < n * 2 then tenF R B o else .int .i64 0) ((n + 1) * 2) (by omega)
  have g3 := fArr_get ((n + 2) * 2) (fun o => if o < n * 2 then tenF R B o else .int .i64 0) ((n + 1) * 2 + 1) (by omega)
  go_wp2
  go_ret
  have hb5 := (((hb2.set (n * 2) (.int .i64 (-77))).set (n * 2 + 1) (.int .i64 0)).set ((n + 1) * 2) (.int .i64 0)).set ((n + 1) * 2 + 1) (.int .i64 (-77))
  rw [hand_stores] at hb5
  refine ⟨rfl, hb5, ?_⟩
  have h02 : Same w w2 := ⟨hk2.os, hk2.tape, hk2.output, Nat.le_trans (by simp) hk2.size, fun q hq _ => (hk2.block q (by simp; omega) (by omega)).trans (Below.heap_alloc _ _ _ hq)⟩
  exact Kept.setCell (Kept.setCell (Kept.setCell (Kept.setCell h02 _ (.inr (Nat.le_refl _)) _) _ (.inr (Nat.le_refl _)) _) _ (.inr (Nat.le_refl _)) _) _ (.inr (Nat.le_refl _)) _

theorem hand_even (n : Nat) (R B : Nat → Int) (k : Nat) (h : k < n) : handF n R B (k * 2) = .int .i64 (R k) := by
  unfold handF; rw [if_pos (by omega), tenF_even]
theorem hand_odd (n : Nat) (R B : Nat → Int) (k : Nat) (h : k < n) : handF n R B (k * 2 + 1) = .int .i64 (B k) := by
  unfold handF; rw [if_pos (by omega), tenF_odd]
theorem hand_m0 (n : Nat) (R B : Nat → Int) : handF n R B (n * 2) = .int .i64 (-77) := by
  unfold handF; rw [if_neg (by omega), if_pos (by omega)]
theorem hand_m1 (n : Nat) (R B : Nat → Int) : handF n R B (n * 2 + 1) = .int .i64 0 := by
  unfold handF; rw [if_neg (by omega), if_neg (by omega)]
theorem hand_m2 (n : Nat) (R B : Nat → Int) : handF n R B ((n + 1) * 2) = .int .i64 0 := by
  unfold handF; rw [if_neg (by omega), if_neg (by omega)]
theorem hand_m3 (n : Nat) (R B : Nat → Int) : handF n R B ((n + 1) * 2 + 1) = .int .i64 (-77) := by
  unfold handF; rw [if_neg (by omega), if_pos (by omega)]

set_option maxRecDepth 100000 in
set_option maxHeartbeats 1000000 in
theorem still_any (a : Option Addr) (g n cap : Nat) (R B : Nat → Int) (w : World) (hT : Ten w a n R B) (hb : BAt w g 56 (fArr ((n + 2) * 2) (handF n R B))) (hn : n * 16 ≤ 140737488355328) :
    Calls Tryd.prog 19 #[.slice (some ⟨g, 0, none⟩) n (n + 2), .slice a n cap] w fun e w' => e = .returned (.bool true) ∧ ∃ q, w' = w.drewN q := by
  have n0 : (0 : Int) ≤ (n : Int) := by omega
  have n1 : (n : Int) < 9000000000000 := by omega
  have m0 : w.cell? ⟨g, n * 2, none⟩ = some (.int .i64 (-77)) := by rw [hb.cell, fArr_get _ _ _ (by omega), hand_m0]
  have m1 : w.cell? ⟨g, n * 2 + 1, none⟩ = some (.int .i64 0) := by rw [hb.cell, fArr_get _ _ _ (by omega), hand_m1]
  have m2 : w.cell? ⟨g, (n + 1) * 2, none⟩ = some (.int .i64 0) := by rw [hb.cell, fArr_get _ _ _ (by omega), hand_m2]
  have m3 : w.cell? ⟨g, (n + 1) * 2 + 1, none⟩ = some (.int .i64 (-77)) := by rw [hb.cell, fArr_get _ _ _ (by omega), hand_m3]
  have hcl : ∀ k, k < n → w.cell? ⟨g, k * 2, none⟩ = some (.int .i64 (R k)) ∧ w.cell? ⟨g, k * 2 + 1, none⟩ = some (.int .i64 (B k)) := by
    intro k hk
    constructor
    · rw [hb.cell, fArr_get _ _ _ (by omega), hand_even _ _ _ _ hk]
    · rw [hb.cell, fArr_get _ _ _ (by omega), hand_odd _ _ _ _ hk]
  have HC : Hid (∀ k, k < n → w.cell? ⟨g, k * 2, none⟩ = some (.int .i64 (R k)) ∧ w.cell? ⟨g, k * 2 + 1, none⟩ = some (.int .i64 (B k))) := hcl
  clear hcl hn
  go_enter Tryd.func19, Tryd.ntmps19
  go_wp2
  go_loopw [5] (fun x wr => ∃ (k q : Nat), k ≤ n ∧ x = .int .i64 k ∧ wr = w.drewN q) (fun x _ => n - (intOf x).toNat)
  case atStart => exact ⟨0, 0, by omega, rfl, rfl⟩
  case round =>
    obtain ⟨k, q, hk, rfl, rfl⟩ := hrel
    by_cases hlt : k < n
    · obtain ⟨c0, c1⟩ := HC.out k hlt
      rcases hT with hT | ⟨b, off, rfl, hbl, hR, hB⟩
      · omega
      have cR := hR k hlt
      have cB := hB k hlt
      have hki : (k : Int) < n := by omega
      have hki2 : (k : Int) < (n : Int) + 2 := by omega
      clear hR hB m0 m1 m2 m3
      go_wp2
      go_quiet (fail)
      go_wp2
      exact ⟨⟨k + 1, q + nq, by omega, by go_num, rfl⟩, by simp [intOf]; omega⟩
    · go_wp2
      go_ret
      exact ⟨rfl, _, rfl⟩

end Go.Proofs.YtpfahgogjeignaaDoor
